/- desc: the word of a descriptor; Encode. -/
import Derived.Test.YtggmldickiehbaaE3
namespace Go.Proofs.Ytggmldickiehbaa
open Go.RowKit

theorem and_low {u M low : Nat} (hu : u < 2 ^ low) (hM : M % 2 ^ low = 2 ^ low - 1) : u &&& M = u := by
  have e : u &&& M = (u &&& M) % 2 ^ low := (Nat.mod_eq_of_lt (Nat.lt_of_le_of_lt Nat.and_le_left hu)).symm
  rw [e, Nat.and_mod_two_pow, hM, Nat.and_two_pow_sub_one_eq_mod, Nat.mod_mod, Nat.mod_eq_of_lt hu]
theorem set_low {u low n v : Nat} (hu : u < 2 ^ low) (hM : (18446744073709551615 - on n * 2 ^ low) % 2 ^ low = 2 ^ low - 1) (hv : v < 2 ^ n) : setN u low n v = u + v * 2 ^ low := by
  unfold setN
  rw [and_low hu hM, Nat.mod_eq_of_lt hv, Nat.or_comm, Nat.mul_comm, ← Nat.two_pow_add_eq_or_of_lt hu, Nat.add_comm]
theorem one_lt (b : Bool) : oneN b < 2 := by cases b <;> decide

theorem setBit_low (u i : Nat) (b : Bool) (m : Nat) (w : World) (hi : i < 64) (hu : u < 2 ^ i) (hM : (18446744073709551615 - on 1 * 2 ^ i) % 2 ^ i = 2 ^ i - 1) (hm : m = u + oneN b * 2 ^ i) :
    Calls Try.prog 19 #[.int .u64 (u : Int), .int .i64 (i : Int), .bool b] w fun e w' => e = .returned (.int .u64 (m : Nat)) ∧ Dr w w' := by
  have h64 : (2 : Nat) ^ i < 18446744073709551616 := Nat.lt_of_le_of_lt (Nat.pow_le_pow_right (by decide) (show i ≤ 63 by omega)) (by decide)
  have := setBit_any u i b w (by omega) hi
  rw [set_low hu hM (by have := one_lt b; omega), ← hm] at this
  exact this
theorem set_lows (u i n v : Nat) (m : Nat) (w : World) (hn : 1 ≤ n) (hi : i + n ≤ 64) (hu : u < 2 ^ i) (hM : (18446744073709551615 - on n * 2 ^ i) % 2 ^ i = 2 ^ i - 1) (hv : v < 2 ^ n) (hm : m = u + v * 2 ^ i) :
    Calls Try.prog 20 #[.int .u64 (u : Int), .int .i64 (i : Int), .int .i64 (n : Int), .int .u64 (v : Int)] w fun e w' => e = .returned (.int .u64 (m : Nat)) ∧ Dr w w' := by
  have h64 : (2 : Nat) ^ i < 18446744073709551616 := Nat.lt_of_le_of_lt (Nat.pow_le_pow_right (by decide) (show i ≤ 63 by omega)) (by decide)
  have h65 : (2 : Nat) ^ n ≤ 18446744073709551616 := Nat.le_trans (Nat.pow_le_pow_right (by decide) (show n ≤ 64 by omega)) (by decide)
  have := set_any u i n v w (by omega) (by omega) hn hi
  rw [set_low hu hM hv, ← hm] at this
  exact this

/-- A descriptor's word. -/
def wrd (k : Int) (a : Nat) (r q x : Bool) (f : Int) : Nat :=
  if k = 0 then 0 else 1 + 2 * oneN (k != 2) + 64 * oneN r + 128 * oneN q + 256 * oneN x + a + f.toNat * 36028797018963968
/-- What Encode tells. -/
def dencN (s l k : Int) (a : Nat) (r q x : Bool) (f : Int) : Nat := if dchk s l k a r q x f = 0 then wrd k a r q x f else 0

theorem unit_dvd {s l k : Int} (h : isPl s l = true) : 4096 ∣ unitN l k := by
  have := isPl_iff.1 h
  unfold unitN
  split
  · unfold spn
    rw [if_pos (isLv_iff.2 ⟨this.2.2.1, this.2.2.2⟩)]
    exact Nat.pow_dvd_pow 2 (m := 12) (by unfold sh; omega)
  · exact Nat.dvd_refl _
theorem chk_ok {s l k : Int} {a : Nat} {r q x : Bool} {f : Int} (h : dchk s l k a r q x f = 0) :
    isPl s l = true ∧ isKd k = true ∧ (0 ≤ f ∧ f ≤ 15) ∧ fm l k a r q x f = true ∧ a < topS s ∧ a % unitN l k = 0 := by
  unfold dchk at h
  split at h
  · cases h
  rename_i h1
  split at h
  · cases h
  rename_i h2
  split at h
  · cases h
  rename_i h3
  split at h
  · cases h
  rename_i h4
  have h1 := Decidable.not_not.1 h1
  exact ⟨h1.1, h1.2.1, h1.2.2, by simpa using h2, by omega, by omega⟩
theorem top_le (s : Int) : topS s ≤ 1099511627776 := by unfold topS; split; exact Nat.le_refl _; split <;> decide
theorem chk_addr {s l k : Int} {a : Nat} {r q x : Bool} {f : Int} (h : dchk s l k a r q x f = 0) : ∃ c, a = c * 4096 ∧ c < 268435456 := by
  obtain ⟨h1, _, _, _, h5, h6⟩ := chk_ok h
  have := Nat.dvd_trans (unit_dvd h1 (k := k)) (Nat.dvd_of_mod_eq_zero h6)
  obtain ⟨c, hc⟩ := this
  have := top_le s
  exact ⟨c, by omega, by omega⟩

set_option maxHeartbeats 4000000 in
set_option maxRecDepth 10000 in
theorem encode_any (s l k : Int) (a : Nat) (r q x : Bool) (f : Int) (w : World) :
    Calls Try.prog 9 #[.int .i64 s, .int .i64 l, .agg #[.int .i64 k, .int .u64 (a : Int), .bool r, .bool q, .bool x, .int .i64 f]] w fun e w' => e = .returned (.tuple #[.int .u64 (dencN s l k a r q x f : Nat), .int .i64 (dchk s l k a r q x f)]) ∧ Kp w w' := by
  have c1 := dcheck_any s l k a r q x f
  by_cases h : dchk s l k a r q x f = 0
  · rw [dencN, if_pos h, h]
    rw [h] at c1
    by_cases hk : k = 0
    · subst hk
      rw [wrd, if_pos rfl]
      clear h
      go_enter Try.func9, Try.ntmps9
      go_wp2_with fail
      with_reducible refine (c1 _).mono ?_
      rintro e w1 ⟨rfl, K⟩
      have B := (BX.made w 0 a r q x f).kp K
      have HK : Hid (Kp w w1) := ((Kp.refl _).alloc _).trans K
      have x0 := B.c0
      clear K B
      go_wp2
      go_ret2
      exact ⟨rfl, HK.out⟩
    · rw [wrd, if_neg hk]
      obtain ⟨c, ha, hc⟩ := chk_addr h
      obtain ⟨_, _, ⟨hf0, hf1⟩, _⟩ := chk_ok h
      obtain ⟨g, rfl⟩ : ∃ g : Nat, f = g := ⟨f.toNat, by omega⟩
      obtain ⟨bb, hbb⟩ : ∃ bb, (k != 2) = bb := ⟨_, rfl⟩
      rw [hbb, Int.toNat_natCast]
      have o1 := one_lt bb
      have o2 := one_lt r
      have o3 := one_lt q
      have o4 := one_lt x
      obtain ⟨n2, e2⟩ : ∃ n, n = 1 + oneN bb * 2 ^ 1 := ⟨_, rfl⟩
      obtain ⟨n3, e3⟩ : ∃ n, n = n2 + oneN r * 2 ^ 6 := ⟨_, rfl⟩
      obtain ⟨n4, e4⟩ : ∃ n, n = n3 + oneN q * 2 ^ 7 := ⟨_, rfl⟩
      obtain ⟨n5, e5⟩ : ∃ n, n = n4 + oneN x * 2 ^ 8 := ⟨_, rfl⟩
      obtain ⟨n6, e6⟩ : ∃ n, n = n5 + c * 2 ^ 12 := ⟨_, rfl⟩
      obtain ⟨n7, e7⟩ : ∃ n, n = n6 + g * 2 ^ 55 := ⟨_, rfl⟩
      have hw : IntKind.u64.wrap (c : Int) = c := by simp [IntKind.wrap, IntKind.bits, IntKind.signed]; omega
      have s1 : Aside (∀ w, Calls Try.prog 19 #[.int .u64 0, .int .i64 0, .bool true] w fun e w' => e = .returned (.int .u64 1) ∧ Dr w w') := fun w => setBit_low 0 0 true 1 w (by decide) (by decide) (by decide +kernel) rfl
      have s2 : Aside (∀ w, Calls Try.prog 19 #[.int .u64 1, .int .i64 1, .bool bb] w fun e w' => e = .returned (.int .u64 (n2 : Nat)) ∧ Dr w w') := fun w => setBit_low 1 1 bb n2 w (by decide) (by decide) (by decide +kernel) e2
      have s3 : Aside (∀ w, Calls Try.prog 19 #[.int .u64 (n2 : Nat), .int .i64 6, .bool r] w fun e w' => e = .returned (.int .u64 (n3 : Nat)) ∧ Dr w w') := fun w => setBit_low n2 6 r n3 w (by decide) (by omega) (by decide +kernel) e3
      have s4 : Aside (∀ w, Calls Try.prog 19 #[.int .u64 (n3 : Nat), .int .i64 7, .bool q] w fun e w' => e = .returned (.int .u64 (n4 : Nat)) ∧ Dr w w') := fun w => setBit_low n3 7 q n4 w (by decide) (by omega) (by decide +kernel) e4
      have s5 : Aside (∀ w, Calls Try.prog 19 #[.int .u64 (n4 : Nat), .int .i64 8, .bool x] w fun e w' => e = .returned (.int .u64 (n5 : Nat)) ∧ Dr w w') := fun w => setBit_low n4 8 x n5 w (by decide) (by omega) (by decide +kernel) e5
      have s6 : Aside (∀ w, Calls Try.prog 20 #[.int .u64 (n5 : Nat), .int .i64 12, .int .i64 36, .int .u64 (IntKind.u64.wrap (c : Nat))] w fun e w' => e = .returned (.int .u64 (n6 : Nat)) ∧ Dr w w') := fun w => by rw [hw]; exact set_lows n5 12 36 c n6 w (by decide) (by decide) (by omega) (by decide +kernel) (by omega) e6
      have s7 : Aside (∀ w, Calls Try.prog 20 #[.int .u64 (n6 : Nat), .int .i64 55, .int .i64 4, .int .u64 (g : Nat)] w fun e w' => e = .returned (.int .u64 (n7 : Nat)) ∧ Dr w w') := fun w => set_lows n6 55 4 g n7 w (by decide) (by decide) (by omega) (by decide +kernel) (by omega) e7
      have q7 : 1 + 2 * oneN bb + 64 * oneN r + 128 * oneN q + 256 * oneN x + a + g * 36028797018963968 = n7 := by omega
      have a1 : (a : Int) / 4096 = (c : Nat) := by omega
      have a2 : (a : Int).tdiv 4096 = (c : Nat) := by rw [Int.tdiv_eq_ediv_of_nonneg (by omega)]; exact a1
      have g1 : (g : Int) ≤ 15 := by omega
      rw [q7]
      clear hw q7 e2 e3 e4 e5 e6 e7 o1 o2 o3 o4 h ha hc hf0 hf1
      go_enter Try.func9, Try.ntmps9
      go_wp2_with fail
      with_reducible refine (c1 _).mono ?_
      rintro e w1 ⟨rfl, K⟩
      have B := (BX.made w k a r q x g).kp K
      have HK : Hid (Kp w w1) := ((Kp.refl _).alloc _).trans K
      have HB : Hid (BX w1 w.heap.size k a r q x g) := B
      have x0 := B.c0
      clear K B c1
      go_wp2_with fail
      with_reducible refine (s1.out _).mono ?_
      rintro e w2 ⟨rfl, D⟩
      have HK' : Hid (Kp w w2) := HK.out.trans D.kp
      have HB' : Hid (BX w2 w.heap.size k a r q x g) := HB.out.kp D.kp
      clear x0 HK HB D
      have HK := HK'
      have HB := HB'
      clear HK' HB'
      have xx := HB.out.c0
      go_wp2_with fail
      with_reducible refine (s2.out _).mono ?_
      rintro e w3 ⟨rfl, D⟩
      have HK' : Hid (Kp w w3) := HK.out.trans D.kp
      have HB' : Hid (BX w3 w.heap.size k a r q x g) := HB.out.kp D.kp
      clear xx HK HB D
      have HK := HK'
      have HB := HB'
      clear HK' HB'
      have xx := HB.out.c2
      go_wp2_with fail
      with_reducible refine (s3.out _).mono ?_
      rintro e w4 ⟨rfl, D⟩
      have HK' : Hid (Kp w w4) := HK.out.trans D.kp
      have HB' : Hid (BX w4 w.heap.size k a r q x g) := HB.out.kp D.kp
      clear xx HK HB D
      have HK := HK'
      have HB := HB'
      clear HK' HB'
      have xx := HB.out.c3
      go_wp2_with fail
      with_reducible refine (s4.out _).mono ?_
      rintro e w5 ⟨rfl, D⟩
      have HK' : Hid (Kp w w5) := HK.out.trans D.kp
      have HB' : Hid (BX w5 w.heap.size k a r q x g) := HB.out.kp D.kp
      clear xx HK HB D
      have HK := HK'
      have HB := HB'
      clear HK' HB'
      have xx := HB.out.c4
      go_wp2_with fail
      with_reducible refine (s5.out _).mono ?_
      rintro e w6 ⟨rfl, D⟩
      have HK' : Hid (Kp w w6) := HK.out.trans D.kp
      have HB' : Hid (BX w6 w.heap.size k a r q x g) := HB.out.kp D.kp
      clear xx HK HB D
      have HK := HK'
      have HB := HB'
      clear HK' HB'
      have xx := HB.out.c1
      go_wp2_with fail
      with_reducible refine (s6.out _).mono ?_
      rintro e w7 ⟨rfl, D⟩
      have HK' : Hid (Kp w w7) := HK.out.trans D.kp
      have HB' : Hid (BX w7 w.heap.size k a r q x g) := HB.out.kp D.kp
      clear xx HK HB D
      have HK := HK'
      have HB := HB'
      clear HK' HB'
      have xx := HB.out.c5
      go_wp2_with fail
      with_reducible refine (s7.out _).mono ?_
      rintro e w8 ⟨rfl, D⟩
      have HK' : Hid (Kp w w8) := HK.out.trans D.kp
      have HB' : Hid (BX w8 w.heap.size k a r q x g) := HB.out.kp D.kp
      clear xx HK HB D
      have HK := HK'
      have HB := HB'
      clear HK' HB'
      go_wp2_with fail
      go_ret2
      exact ⟨rfl, HK.out⟩
  · rw [dencN, if_neg h]
    generalize dchk s l k a r q x f = e at *
    have h1 : (e != 0) = true := by rw [bne_iff_ne]; exact h
    go_enter Try.func9, Try.ntmps9
    go_wp2_with fail
    with_reducible refine (c1 _).mono ?_
    rintro e w1 ⟨rfl, K⟩
    have HK : Hid (Kp w w1) := ((Kp.refl _).alloc _).trans K
    clear K
    go_wp2
    go_ret2
    exact ⟨rfl, HK.out⟩

end Go.Proofs.Ytggmldickiehbaa
