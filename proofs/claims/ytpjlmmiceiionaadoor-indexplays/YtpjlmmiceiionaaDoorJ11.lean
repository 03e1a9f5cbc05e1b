/- Joined: D2, D3, D4. -/
import Derived.Test.YtpjlmmiceiionaaDoorJ10
import Derived.Deep.LoopGhost
import Derived.WalkMore
/- The program's words: wordAt, Word; the document's: word, parts, Make, Clean. -/
namespace Go.Proofs.YtpjlmmiceiionaaDoor
open Go.RowKit

theorem BS.at {w : World} {b o k : Nat} {f : Nat → Nat} (H : BS w b o 4096 f) (hk : k < 512) (i : Nat) (hi : i < 8) : w.cell? ⟨b, o + k * 8 + i, none⟩ = some (.int .u8 (f (8 * k + i) : Nat)) := by
  rw [show o + k * 8 + i = o + (8 * k + i) by omega]; exact H.cell _ (by omega)

theorem or_put (n M a c : Nat) (hM : 2 ^ n = M) (ha : a < M) (h : a + c * M < 18446744073709551616) : ∃ r : Nat, bits .or .u64 (a : Int) ((c : Int) * (M : Int)) = (r : Int) ∧ r = a + c * M := by
  subst hM
  have := or_high a c n ha h
  rw [Int.natCast_mul] at this
  exact ⟨_, this, rfl⟩

set_option maxHeartbeats 2000000 in
set_option maxRecDepth 10000 in
theorem wordAt_any (b o cap k : Nat) (f : Nat → Nat) (w : World) (H : BS w b o 4096 f) (hk : k < 512) (hcap : 4096 ≤ cap) :
    Calls Tryd.prog 46 #[.slice (some ⟨b, o, none⟩) 4096 cap, .int .i64 (k : Int)] w fun e w' => e = .returned (.int .u64 (wd f k : Nat)) ∧ w' = w := by
  have z0 : (0 : Int) ≤ k := by omega
  have z1 : (k : Int) < 512 := by omega
  have z2 : (4096 : Int) ≤ cap := by omega
  have c0 := H.at hk 0 (by omega)
  have b0 := H.byte (8 * k + 0)
  have c1 := H.at hk 1 (by omega)
  have b1 := H.byte (8 * k + 1)
  have c2 := H.at hk 2 (by omega)
  have b2 := H.byte (8 * k + 2)
  have c3 := H.at hk 3 (by omega)
  have b3 := H.byte (8 * k + 3)
  have c4 := H.at hk 4 (by omega)
  have b4 := H.byte (8 * k + 4)
  have c5 := H.at hk 5 (by omega)
  have b5 := H.byte (8 * k + 5)
  have c6 := H.at hk 6 (by omega)
  have b6 := H.byte (8 * k + 6)
  have c7 := H.at hk 7 (by omega)
  have b7 := H.byte (8 * k + 7)
  have hw : wd f k = f (8 * k + 0) + 256 * f (8 * k + 1) + 65536 * f (8 * k + 2) + 16777216 * f (8 * k + 3) + 4294967296 * (f (8 * k + 4) + 256 * f (8 * k + 5) + 65536 * f (8 * k + 6) + 16777216 * f (8 * k + 7)) := rfl
  rw [Nat.add_zero] at c0
  generalize f (8 * k + 0) = f0 at *
  generalize f (8 * k + 1) = f1 at *
  generalize f (8 * k + 2) = f2 at *
  generalize f (8 * k + 3) = f3 at *
  generalize f (8 * k + 4) = f4 at *
  generalize f (8 * k + 5) = f5 at *
  generalize f (8 * k + 6) = f6 at *
  generalize f (8 * k + 7) = f7 at *
  obtain ⟨a0, o0, e0⟩ := or_put 0 1 0 f0 rfl (by omega) (by omega)
  obtain ⟨a1, o1, e1⟩ := or_put 8 256 a0 f1 rfl (by omega) (by omega)
  obtain ⟨a2, o2, e2⟩ := or_put 16 65536 a1 f2 rfl (by omega) (by omega)
  obtain ⟨a3, o3, e3⟩ := or_put 24 16777216 a2 f3 rfl (by omega) (by omega)
  obtain ⟨a4, o4, e4⟩ := or_put 32 4294967296 a3 f4 rfl (by omega) (by omega)
  obtain ⟨a5, o5, e5⟩ := or_put 40 1099511627776 a4 f5 rfl (by omega) (by omega)
  obtain ⟨a6, o6, e6⟩ := or_put 48 281474976710656 a5 f6 rfl (by omega) (by omega)
  obtain ⟨a7, o7, e7⟩ := or_put 56 72057594037927936 a6 f7 rfl (by omega) (by omega)
  rw [show ((1 : Nat) : Int) = 1 from rfl, Int.mul_one] at o0
  have p0 : bits .or .u64 0 (f0 : Int) = a0 := o0
  have p1 : bits .or .u64 (a0 : Int) ((f1 : Int) * 256) = a1 := o1
  have p2 : bits .or .u64 (a1 : Int) ((f2 : Int) * 65536) = a2 := o2
  have p3 : bits .or .u64 (a2 : Int) ((f3 : Int) * 16777216) = a3 := o3
  have p4 : bits .or .u64 (a3 : Int) ((f4 : Int) * 4294967296) = a4 := o4
  have p5 : bits .or .u64 (a4 : Int) ((f5 : Int) * 1099511627776) = a5 := o5
  have p6 : bits .or .u64 (a5 : Int) ((f6 : Int) * 281474976710656) = a6 := o6
  have p7 : bits .or .u64 (a6 : Int) ((f7 : Int) * 72057594037927936) = a7 := o7
  have y0 : (f0 : Int) < 256 := by omega
  have y1 : (f1 : Int) < 256 := by omega
  have y2 : (f2 : Int) < 256 := by omega
  have y3 : (f3 : Int) < 256 := by omega
  have y4 : (f4 : Int) < 256 := by omega
  have y5 : (f5 : Int) < 256 := by omega
  have y6 : (f6 : Int) < 256 := by omega
  have y7 : (f7 : Int) < 256 := by omega
  have hr : wd f k = a7 := by omega
  rw [hr]
  clear e0 b0 o0 e1 b1 o1 e2 b2 o2 e3 b3 o3 e4 b4 o4 e5 b5 o5 e6 b6 o6 e7 b7 o7 hw hr
  go_enter Tryd.func46, Tryd.ntmps46
  go_wp2_with fail
  rw [show (k + 1) * 8 - k * 8 = 8 by omega]
  refine wp_loop_rounds 9 ?_
  rw [rounds_succ]; go_wp2
  rw [rounds_succ]; go_wp2
  rw [rounds_succ]; go_wp2
  rw [rounds_succ]; go_wp2
  rw [rounds_succ]; go_wp2
  rw [rounds_succ]; go_wp2
  rw [rounds_succ]; go_wp2
  rw [rounds_succ]; go_wp2
  rw [rounds_succ]; go_wp2
  go_ret
  exact ⟨rfl, rfl⟩

end Go.Proofs.YtpjlmmiceiionaaDoor

/- Word; the document's word, parts, Make, Clean. -/
namespace Go.Proofs.YtpjlmmiceiionaaDoor
open Go.RowKit

set_option maxHeartbeats 400000 in
theorem word_any (u : Nat) (w : World) (hu : u < 18446744073709551616) :
    Calls Tryd.prog 45 #[.int .u64 (u : Int)] w fun e w' => e = .returned (.complex .f64 (floatOfInt .f64 ((u % 4294967296 : Nat) : Int)) (floatOfInt .f64 ((u / 4294967296 : Nat) : Int))) ∧ w' = w := by
  have h1 : (u : Int) < 18446744073709551616 := by omega
  go_enter Tryd.func45, Tryd.ntmps45
  go_wp2
  go_ret
  exact ⟨rfl, rfl⟩

set_option maxHeartbeats 400000 in
theorem mk_any (x y : Int) (w : World) :
    Calls Tryd.prog 52 #[.int .i64 x, .int .i64 y] w fun e w' => e = .returned (.complex .f64 (floatOfInt .f64 x) (floatOfInt .f64 y)) ∧ w' = w := by
  go_enter Tryd.func52, Tryd.ntmps52
  go_wp2
  go_ret
  exact ⟨rfl, rfl⟩

theorem lit_inf : floatBits .quo .f64 4607182418800017408 0 = some 9218868437227405312 := by decide +kernel
theorem lit_gt : (FloatKind.f64.format.order 9218868437227405312 0 == some .gt) = true := by decide +kernel

theorem one_by_nought (w : World) : (binOp .quo 118 (.float .f64 4607182418800017408) (.float .f64 0)).run Tryd.prog w = .ok (.float .f64 9218868437227405312) w := by
  simp [binOp, run_floatArith w lit_inf]

end Go.Proofs.YtpjlmmiceiionaaDoor

/- digest.Of, and what it refuses. -/
namespace Go.Proofs.YtpjlmmiceiionaaDoor
open Go.RowKit

theorem or_next (n M a c : Nat) (hM : 2 ^ n = M) (ha : a < M) (hn : n ≤ 56) (hc : c < 256) : ∃ r : Nat, bits .or .u64 ((a : Int) * 256) (c : Int) = (r : Int) ∧ r = a * 256 + c ∧ (a : Int) < 72057594037927936 := by
  have h56 : M ≤ 2 ^ 56 := by rw [← hM]; exact Nat.pow_le_pow_right (by decide) hn
  rw [show (2 : Nat) ^ 56 = 72057594037927936 from rfl] at h56
  have := or_low a c hc (by omega)
  rw [Int.natCast_mul] at this
  exact ⟨_, this, rfl, by omega⟩

theorem BS.at0 {w : World} {b k : Nat} {f : Nat → Nat} (H : BS w b 0 4096 f) (hk : k < 512) (i : Nat) (hi : i < 8) : w.cell? ⟨b, 8 * k + i, none⟩ = some (.int .u8 (f (8 * k + i) : Nat)) := by
  have := H.cell (8 * k + i) (by omega)
  rwa [Nat.zero_add] at this

theorem kmod (k : Nat) : (k : Int) % 4 = ((k % 4 : Nat) : Int) := by omega

theorem word_at (b o cap k : Nat) (f : Nat → Nat) (w : World) (H : BS w b o 4096 f) (hk : k < 512) (hcap : 4096 ≤ cap) (v : Nat) (hv : v = wd f k) :
    Calls Tryd.prog 46 #[.slice (some ⟨b, o, none⟩) 4096 cap, .int .i64 (k : Int)] w fun e w' => e = .returned (.int .u64 (v : Nat)) ∧ w' = w := by
  rw [hv]; exact wordAt_any b o cap k f w H hk hcap

theorem word_num (v l h : Nat) (w : World) (hv : v < 18446744073709551616) (hl : v % 4294967296 = l) (hh : v / 4294967296 = h) :
    Calls Tryd.prog 45 #[.int .u64 (v : Int)] w fun e w' => e = .returned (.complex .f64 (floatOfInt .f64 (l : Int)) (floatOfInt .f64 (h : Int))) ∧ w' = w := by
  have := word_any v w hv
  rw [hl, hh] at this
  exact this

set_option maxHeartbeats 1000000 in
theorem of_any (b o cap : Nat) (f : Nat → Nat) (w : World) (H : BS w b o 4096 f) (hcap : 4096 ≤ cap) :
    Calls Tryd.prog 27 #[.slice (some ⟨b, o, none⟩) 4096 cap] w fun e w' => ∃ re im, e = .returned (.tuple #[.complex .f64 re im, .int .i64 0]) ∧ FC re (sre f 512) ∧ FC im (sim f 512) ∧ w' = w := by
  have HH : Aside (BS w b o 4096 f) := H
  clear H
  go_enter Tryd.func27, Tryd.ntmps27
  go_wp2_with fail
  go_loopg [4, 9] 512 (fun g v4 v9 wr => ∃ (k re im : Nat), v4 = .complex .f64 re im ∧ v9 = .int .i64 k ∧ k ≤ 512 ∧ 512 - k ≤ g ∧ Hid (FC re (sre f k)) ∧ Hid (FC im (sim f k)) ∧ wr = w)
  case atStart => exact ⟨0, 0, 0, rfl, by go_num, by omega, by omega, FC_zero, FC_zero, rfl⟩
  case round =>
    obtain ⟨k, re, im, rfl, rfl, hk, hg, F1, F2, rfl⟩ := hrel
    by_cases hlt : k < 512
    · have y1 : (k : Int) < 512 := by omega
      obtain ⟨v, hv⟩ : ∃ v, v = wd f k := ⟨_, rfl⟩
      have c1 := word_at b o cap k f wr HH.out hlt hcap v hv
      have hb := HH.out.byte
      have l1 := hb.lo k
      have l2 := hb.hi k
      have c2 := fun w => word_num v (lo f k) (hi f k) w (by rw [hv]; exact wd_lt hb k) (by rw [hv]; exact wd_lo hb k) (by rw [hv]; exact wd_hi hb k)
      have c3 := fun w => turn_wide (k % 4) _ _ (lo f k : Int) (hi f k : Int) (k : Int) w (FI_of_int _ (by omega)) (FI_of_int _ (by omega)) (by omega) (by omega) (kmod k)
      have s1 := sre_le hb (k + 1)
      have s2 := sim_le hb (k + 1)
      have s3 : (sre f k + tre (k % 4) (lo f k) (hi f k)).natAbs < 9007199254740992 := by have : sre f (k + 1) = sre f k + tre (k % 4) (lo f k) (hi f k) := rfl; rw [← this]; omega
      have s4 : (sim f k + tim (k % 4) (lo f k) (hi f k)).natAbs < 9007199254740992 := by have : sim f (k + 1) = sim f k + tim (k % 4) (lo f k) (hi f k) := rfl; rw [← this]; omega
      have S3 : Hid _ := s3
      have S4 : Hid _ := s4
      clear s1 s2 s3 s4 l1 l2 hb hv
      go_wp2_with (first | (go_at_call 46; with_reducible refine c1.mono ?_; rintro e w' ⟨rfl, rfl⟩) | (go_at_call 45; with_reducible refine (c2 _).mono ?_; rintro e w' ⟨rfl, rfl⟩))
      with_reducible refine (c3 _).mono ?_
      rintro e w' ⟨r1, r2, rfl, t1, t2, rfl⟩
      obtain ⟨q1, q2, hq, u1, u2⟩ := FC_cadd F1.out F2.out t1 t2 S3.out S4.out
      have hM := run_complex_sum (P := Tryd.prog) w' .add (.inl rfl) 51 _ _ _ _ _ _ _ hq
      have U1 : Hid _ := u1
      have U2 : Hid _ := u2
      clear u1 u2 hq t1 t2
      go_wp2
      go_roundg (512 - (k + 1))
      case measure => omega
      case rel => exact ⟨k + 1, q1, q2, rfl, by go_num, by omega, by omega, U1, U2, rfl⟩
    · have e : k = 512 := by omega
      subst e
      go_wp2
      go_ret2
      exact ⟨_, _, rfl, F1.out, F2.out, rfl⟩

set_option maxHeartbeats 400000 in
theorem of_refuses (na : Option Addr) (m cap : Nat) (w : World) (h : m < 4096) :
    Calls Tryd.prog 27 #[.slice na m cap] w fun e w' => e = .returned (.tuple #[.complex .f64 0 0, .int .i64 1]) ∧ w' = w := by
  have h1 : ((m : Int) != 4096) = true := by simp; omega
  go_enter Tryd.func27, Tryd.ntmps27
  go_wp2
  go_ret2
  exact ⟨rfl, rfl⟩

end Go.Proofs.YtpjlmmiceiionaaDoor
