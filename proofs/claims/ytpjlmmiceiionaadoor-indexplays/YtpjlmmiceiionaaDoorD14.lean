/- The document's own answer: word, parts, Of. -/
import Derived.Test.YtpjlmmiceiionaaDoorJ11
namespace Go.Proofs.YtpjlmmiceiionaaDoor
open Go.RowKit

theorem sum_next (n M a c : Nat) (hM : 2 ^ n = M) (ha : a < M) (hn : n ≤ 56) : ∃ r : Nat, (a : Int) * 256 + (c : Int) = (r : Int) ∧ r = a * 256 + c ∧ (a : Int) < 72057594037927936 := by
  have h56 : M ≤ 2 ^ 56 := by rw [← hM]; exact Nat.pow_le_pow_right (by decide) hn
  rw [show (2 : Nat) ^ 56 = 72057594037927936 from rfl] at h56
  exact ⟨a * 256 + c, by omega, rfl, by omega⟩

set_option maxHeartbeats 2000000 in
set_option maxRecDepth 10000 in
theorem rword_any (b cap k v : Nat) (f : Nat → Nat) (w : World) (H : BS w b 0 4096 f) (hk : k < 512) (hv : v = wd f k) :
    Calls Tryd.prog 51 #[.slice (some ⟨b, 0, none⟩) 4096 cap, .int .i64 (k : Int)] w fun e w' => e = .returned (.int .u64 (v : Int)) ∧ w' = w := by
  have z1 : (k : Int) < 512 := by omega
  have c0 := H.at0 hk 0 (by omega)
  have b0 := H.byte (8 * k + 0)
  have c1 := H.at0 hk 1 (by omega)
  have b1 := H.byte (8 * k + 1)
  have c2 := H.at0 hk 2 (by omega)
  have b2 := H.byte (8 * k + 2)
  have c3 := H.at0 hk 3 (by omega)
  have b3 := H.byte (8 * k + 3)
  have c4 := H.at0 hk 4 (by omega)
  have b4 := H.byte (8 * k + 4)
  have c5 := H.at0 hk 5 (by omega)
  have b5 := H.byte (8 * k + 5)
  have c6 := H.at0 hk 6 (by omega)
  have b6 := H.byte (8 * k + 6)
  have c7 := H.at0 hk 7 (by omega)
  have b7 := H.byte (8 * k + 7)
  have hw : v = f (8 * k + 0) + 256 * f (8 * k + 1) + 65536 * f (8 * k + 2) + 16777216 * f (8 * k + 3) + 4294967296 * (f (8 * k + 4) + 256 * f (8 * k + 5) + 65536 * f (8 * k + 6) + 16777216 * f (8 * k + 7)) := hv
  rw [Nat.add_zero] at c0 b0 hw
  generalize f (8 * k) = f0 at c0 b0 hw
  generalize f (8 * k + 1) = f1 at c1 b1 hw
  generalize f (8 * k + 2) = f2 at c2 b2 hw
  generalize f (8 * k + 3) = f3 at c3 b3 hw
  generalize f (8 * k + 4) = f4 at c4 b4 hw
  generalize f (8 * k + 5) = f5 at c5 b5 hw
  generalize f (8 * k + 6) = f6 at c6 b6 hw
  generalize f (8 * k + 7) = f7 at c7 b7 hw
  obtain ⟨a7, o7, e7, x7⟩ := sum_next 0 1 0 f7 rfl (by omega) (by omega)
  obtain ⟨a6, o6, e6, x6⟩ := sum_next 8 256 a7 f6 rfl (by omega) (by omega)
  obtain ⟨a5, o5, e5, x5⟩ := sum_next 16 65536 a6 f5 rfl (by omega) (by omega)
  obtain ⟨a4, o4, e4, x4⟩ := sum_next 24 16777216 a5 f4 rfl (by omega) (by omega)
  obtain ⟨a3, o3, e3, x3⟩ := sum_next 32 4294967296 a4 f3 rfl (by omega) (by omega)
  obtain ⟨a2, o2, e2, x2⟩ := sum_next 40 1099511627776 a3 f2 rfl (by omega) (by omega)
  obtain ⟨a1, o1, e1, x1⟩ := sum_next 48 281474976710656 a2 f1 rfl (by omega) (by omega)
  obtain ⟨a0, o0, e0, x0⟩ := sum_next 56 72057594037927936 a1 f0 rfl (by omega) (by omega)
  have p7 : (f7 : Int) = a7 := by omega
  have y0 : (f0 : Int) < 256 := by omega
  have y1 : (f1 : Int) < 256 := by omega
  have y2 : (f2 : Int) < 256 := by omega
  have y3 : (f3 : Int) < 256 := by omega
  have y4 : (f4 : Int) < 256 := by omega
  have y5 : (f5 : Int) < 256 := by omega
  have y6 : (f6 : Int) < 256 := by omega
  have y7 : (f7 : Int) < 256 := by omega
  have hr : v = a0 := by omega
  subst hr
  clear e0 b0 e1 b1 e2 b2 e3 b3 e4 b4 e5 b5 e6 b6 e7 b7 hw x7 o7 hv
  go_enter Tryd.func51, Tryd.ntmps51
  go_wp2_with fail
  refine wp_loop_rounds 9 ?_
  rw [rounds_succ]; go_wp2
  rw [rounds_succ]; go_wp2
  rw [rounds_succ]; go_wp2
  rw [rounds_succ]; go_wp2
  rw [rounds_succ]; go_wp2
  rw [rounds_succ]; go_wp2
  rw [rounds_succ]; go_wp2
  rw [rounds_succ]; go_wp2
  rw [rounds_succ]; go_wp2
  go_ret
  exact ⟨rfl, rfl⟩

set_option maxHeartbeats 1000000 in
theorem parts0 (v l h k : Nat) (w : World) (hl : v % 4294967296 = l) (hh : v / 4294967296 = h) (hv : v < 18446744073709551616) (hc : k % 4 = 0) :
    Calls Tryd.prog 50 #[.int .u64 (v : Int), .int .i64 (k : Int)] w fun e w' => e = .returned (.tuple #[.int .i64 (tre 0 l h), .int .i64 (tim 0 l h)]) ∧ w' = w := by
  have z1 : (v : Int) % 4294967296 = l := by omega
  have z2 : (v : Int) / 4294967296 = h := by omega
  have z3 : (l : Int) < 4294967296 := by omega
  have z4 : (h : Int) < 4294967296 := by omega
  have z5 : (k : Int) % 4 = 0 := by omega
  clear hl hh hv hc
  go_enter Tryd.func50, Tryd.ntmps50
  go_wp2
  go_ret2
  exact ⟨rfl, rfl⟩

set_option maxHeartbeats 1000000 in
theorem parts1 (v l h k : Nat) (w : World) (hl : v % 4294967296 = l) (hh : v / 4294967296 = h) (hv : v < 18446744073709551616) (hc : k % 4 = 1) :
    Calls Tryd.prog 50 #[.int .u64 (v : Int), .int .i64 (k : Int)] w fun e w' => e = .returned (.tuple #[.int .i64 (tre 1 l h), .int .i64 (tim 1 l h)]) ∧ w' = w := by
  have z1 : (v : Int) % 4294967296 = l := by omega
  have z2 : (v : Int) / 4294967296 = h := by omega
  have z3 : (l : Int) < 4294967296 := by omega
  have z4 : (h : Int) < 4294967296 := by omega
  have z5 : (k : Int) % 4 = 1 := by omega
  clear hl hh hv hc
  go_enter Tryd.func50, Tryd.ntmps50
  go_wp2
  go_ret2
  exact ⟨rfl, rfl⟩

set_option maxHeartbeats 1000000 in
theorem parts2 (v l h k : Nat) (w : World) (hl : v % 4294967296 = l) (hh : v / 4294967296 = h) (hv : v < 18446744073709551616) (hc : k % 4 = 2) :
    Calls Tryd.prog 50 #[.int .u64 (v : Int), .int .i64 (k : Int)] w fun e w' => e = .returned (.tuple #[.int .i64 (tre 2 l h), .int .i64 (tim 2 l h)]) ∧ w' = w := by
  have z1 : (v : Int) % 4294967296 = l := by omega
  have z2 : (v : Int) / 4294967296 = h := by omega
  have z3 : (l : Int) < 4294967296 := by omega
  have z4 : (h : Int) < 4294967296 := by omega
  have z5 : (k : Int) % 4 = 2 := by omega
  clear hl hh hv hc
  go_enter Tryd.func50, Tryd.ntmps50
  go_wp2
  go_ret2
  exact ⟨rfl, rfl⟩

set_option maxHeartbeats 1000000 in
theorem parts3 (v l h k : Nat) (w : World) (hl : v % 4294967296 = l) (hh : v / 4294967296 = h) (hv : v < 18446744073709551616) (hc : k % 4 = 3) :
    Calls Tryd.prog 50 #[.int .u64 (v : Int), .int .i64 (k : Int)] w fun e w' => e = .returned (.tuple #[.int .i64 (tre 3 l h), .int .i64 (tim 3 l h)]) ∧ w' = w := by
  have z1 : (v : Int) % 4294967296 = l := by omega
  have z2 : (v : Int) / 4294967296 = h := by omega
  have z3 : (l : Int) < 4294967296 := by omega
  have z4 : (h : Int) < 4294967296 := by omega
  have z5 : (k : Int) % 4 = 3 := by omega
  clear hl hh hv hc
  go_enter Tryd.func50, Tryd.ntmps50
  go_wp2
  go_ret2
  exact ⟨rfl, rfl⟩

theorem parts_any (v l h k : Nat) (w : World) (hl : v % 4294967296 = l) (hh : v / 4294967296 = h) (hv : v < 18446744073709551616) :
    Calls Tryd.prog 50 #[.int .u64 (v : Int), .int .i64 (k : Int)] w fun e w' => e = .returned (.tuple #[.int .i64 (tre (k % 4) l h), .int .i64 (tim (k % 4) l h)]) ∧ w' = w := by
  have : k % 4 = 0 ∨ k % 4 = 1 ∨ k % 4 = 2 ∨ k % 4 = 3 := by omega
  rcases this with c | c | c | c
  · rw [c]; exact parts0 v l h k w hl hh hv c
  · rw [c]; exact parts1 v l h k w hl hh hv c
  · rw [c]; exact parts2 v l h k w hl hh hv c
  · rw [c]; exact parts3 v l h k w hl hh hv c

set_option maxHeartbeats 1000000 in
theorem rof_any (b cap : Nat) (f : Nat → Nat) (w : World) (H : BS w b 0 4096 f) :
    Calls Tryd.prog 31 #[.slice (some ⟨b, 0, none⟩) 4096 cap] w fun e w' => e = .returned (.tuple #[.complex .f64 (floatOfInt .f64 (sre f 512)) (floatOfInt .f64 (sim f 512)), .int .i64 0]) ∧ w' = w := by
  have HH : Aside (BS w b 0 4096 f) := H
  clear H
  go_enter Tryd.func31, Tryd.ntmps31
  go_wp2_with fail
  go_loopg [4, 5, 6] 512 (fun g v4 v5 v6 wr => ∃ k : Nat, v4 = .int .i64 (sre f k) ∧ v5 = .int .i64 (sim f k) ∧ v6 = .int .i64 k ∧ k ≤ 512 ∧ 512 - k ≤ g ∧ wr = w)
  case atStart => exact ⟨0, rfl, rfl, by go_num, by omega, by omega, rfl⟩
  case round =>
    obtain ⟨k, rfl, rfl, rfl, hk, hg, rfl⟩ := hrel
    by_cases hlt : k < 512
    · have y1 : (k : Int) < 512 := by omega
      obtain ⟨v, hv⟩ : ∃ v, v = wd f k := ⟨_, rfl⟩
      have c1 := rword_any b cap k v f wr HH.out hlt hv
      have hb := HH.out.byte
      have c2 := fun w => parts_any v (lo f k) (hi f k) k w (by rw [hv]; exact wd_lo hb k) (by rw [hv]; exact wd_hi hb k) (by rw [hv]; exact wd_lt hb k)
      have l1 := hb.lo k
      have l2 := hb.hi k
      have s1 := sre_le hb k
      have s2 := sim_le hb k
      have t1 : (tre (k % 4) (lo f k) (hi f k)).natAbs ≤ 4294967296 := tre_le (by omega) (by omega)
      have t2 : (tim (k % 4) (lo f k) (hi f k)).natAbs ≤ 4294967296 := tim_le (by omega) (by omega)
      obtain ⟨X, hX⟩ : ∃ X, X = sre f k := ⟨_, rfl⟩
      obtain ⟨Y, hY⟩ : ∃ Y, Y = sim f k := ⟨_, rfl⟩
      obtain ⟨A, hA⟩ : ∃ A, A = tre (k % 4) (lo f k) (hi f k) := ⟨_, rfl⟩
      obtain ⟨B, hB⟩ : ∃ B, B = tim (k % 4) (lo f k) (hi f k) := ⟨_, rfl⟩
      rw [← hA, ← hB] at c2
      rw [← hA] at t1
      rw [← hB] at t2
      rw [← hX] at s1 ⊢
      rw [← hY] at s2 ⊢
      have m1 : -4398046511104 ≤ X := by omega
      have m2 : X ≤ 4398046511104 := by omega
      have m3 : -4398046511104 ≤ Y := by omega
      have m4 : Y ≤ 4398046511104 := by omega
      have m5 : -4294967296 ≤ A := by omega
      have m6 : A ≤ 4294967296 := by omega
      have m7 : -4294967296 ≤ B := by omega
      have m8 : B ≤ 4294967296 := by omega
      have E1 : Hid (sre f (k + 1) = X + A) := by show _ = _; rw [hX, hA]; rfl
      have E2 : Hid (sim f (k + 1) = Y + B) := by show _ = _; rw [hY, hB]; rfl
      clear s1 s2 t1 t2 hX hY hA hB l1 l2 hb hv
      go_wp2_with (first | (go_at_call 51; with_reducible refine c1.mono ?_; rintro e w' ⟨rfl, rfl⟩) | (go_at_call 50; with_reducible refine (c2 _).mono ?_; rintro e w' ⟨rfl, rfl⟩))
      go_roundg (512 - (k + 1))
      case measure => omega
      case rel => exact ⟨k + 1, by rw [E1.out], by rw [E2.out], by go_num, by omega, by omega, rfl⟩
    · have e : k = 512 := by omega
      subst e
      have c3 := mk_any (sre f 512) (sim f 512)
      go_wp2_with (go_at_call 52; with_reducible refine (c3 _).mono ?_; rintro e w' ⟨rfl, rfl⟩)
      go_ret2
      exact ⟨rfl, rfl⟩

end Go.Proofs.YtpjlmmiceiionaaDoor
