/- digest.Of, and what it refuses. -/
import Derived.Test.YtpjlmmiceiionaaDoorJ10
import Derived.Deep.LoopGhost
import Derived.WalkMore
namespace Go.Proofs.YtpjlmmiceiionaaDoor
open Go.RowKit

theorem or_next (n M a c : Nat) (hM : 2 ^ n = M) (ha : a < M) (hn : n ≤ 56) (hc : c < 256) : ∃ r : Nat, bits .or .u64 ((a : Int) * 256) (c : Int) = (r : Int) ∧ r = a * 256 + c ∧ (a : Int) < 72057594037927936 := by
  have h56 : M ≤ 2 ^ 56 := by rw [← hM]; exact Nat.pow_le_pow_right (by decide) hn
  rw [show (2 : Nat) ^ 56 = 72057594037927936 from rfl] at h56
  have := or_low a c hc (by omega)
  rw [Int.natCast_mul] at this
  exact ⟨_, this, rfl, by omega⟩

theorem BS.at0 {w : World} {b k : Nat} {f : Nat → Nat} (H : BS w b 0 4096 f) (hk : k < 512) (i : Nat) (hi : i < 8) : w.cell? ⟨b, 8 * k + i, none⟩ = some (.int .u8 (f (8 * k + i) : Nat)) := by
  have := H.cell (8 * k + i) (by omega)
  rwa [Nat.zero_add] at this

theorem kmod (k : Nat) : (k : Int) % 4 = ((k % 4 : Nat) : Int) := by omega

theorem word_at (b o cap k : Nat) (f : Nat → Nat) (w : World) (H : BS w b o 4096 f) (hk : k < 512) (hcap : 4096 ≤ cap) (v : Nat) (hv : v = wd f k) :
    Calls Tryd.prog 46 #[.slice (some ⟨b, o, none⟩) 4096 cap, .int .i64 (k : Int)] w fun e w' => e = .returned (.int .u64 (v : Nat)) ∧ w' = w := by
  rw [hv]; exact wordAt_any b o cap k f w H hk hcap

theorem word_num (v l h : Nat) (w : World) (hv : v < 18446744073709551616) (hl : v % 4294967296 = l) (hh : v / 4294967296 = h) :
    Calls Tryd.prog 45 #[.int .u64 (v : Int)] w fun e w' => e = .returned (.complex .f64 (floatOfInt .f64 (l : Int)) (floatOfInt .f64 (h : Int))) ∧ w' = w := by
  have := word_any v w hv
  rw [hl, hh] at this
  exact this

set_option maxHeartbeats 1000000 in
theorem of_any (b o cap : Nat) (f : Nat → Nat) (w : World) (H : BS w b o 4096 f) (hcap : 4096 ≤ cap) :
    Calls Tryd.prog 27 #[.slice (some ⟨b, o, none⟩) 4096 cap] w fun e w' => ∃ re im, e = .returned (.tuple #[.complex .f64 re im, .int .i64 0]) ∧ FC re (sre f 512) ∧ FC im (sim f 512) ∧ w' = w := by
  have HH : Aside (BS w b o 4096 f) := H
  clear H
  go_enter Tryd.func27, Tryd.ntmps27
  go_wp2_with fail
  go_loopg [4, 9] 512 (fun g v4 v9 wr => ∃ (k re im : Nat), v4 = .complex .f64 re im ∧ v9 = .int .i64 k ∧ k ≤ 512 ∧ 512 - k ≤ g ∧ Hid (FC re (sre f k)) ∧ Hid (FC im (sim f k)) ∧ wr = w)
  case atStart => exact ⟨0, 0, 0, rfl, by go_num, by omega, by omega, FC_zero, FC_zero, rfl⟩
  case round =>
    obtain ⟨k, re, im, rfl, rfl, hk, hg, F1, F2, rfl⟩ := hrel
    by_cases hlt : k < 512
    · have y1 : (k : Int) < 512 := by omega
      obtain ⟨v, hv⟩ : ∃ v, v = wd f k := ⟨_, rfl⟩
      have c1 := word_at b o cap k f wr HH.out hlt hcap v hv
      have hb := HH.out.byte
      have l1 := hb.lo k
      have l2 := hb.hi k
      have c2 := fun w => word_num v (lo f k) (hi f k) w (by rw [hv]; exact wd_lt hb k) (by rw [hv]; exact wd_lo hb k) (by rw [hv]; exact wd_hi hb k)
      have c3 := fun w => turn_wide (k % 4) _ _ (lo f k : Int) (hi f k : Int) (k : Int) w (FI_of_int _ (by omega)) (FI_of_int _ (by omega)) (by omega) (by omega) (kmod k)
      have s1 := sre_le hb (k + 1)
      have s2 := sim_le hb (k + 1)
      have s3 : (sre f k + tre (k % 4) (lo f k) (hi f k)).natAbs < 9007199254740992 := by have : sre f (k + 1) = sre f k + tre (k % 4) (lo f k) (hi f k) := rfl; rw [← this]; omega
      have s4 : (sim f k + tim (k % 4) (lo f k) (hi f k)).natAbs < 9007199254740992 := by have : sim f (k + 1) = sim f k + tim (k % 4) (lo f k) (hi f k) := rfl; rw [← this]; omega
      have S3 : Hid _ := s3
      have S4 : Hid _ := s4
      clear s1 s2 s3 s4 l1 l2 hb hv
      go_wp2_with (first | (go_at_call 46; with_reducible refine c1.mono ?_; rintro e w' ⟨rfl, rfl⟩) | (go_at_call 45; with_reducible refine (c2 _).mono ?_; rintro e w' ⟨rfl, rfl⟩))
      with_reducible refine (c3 _).mono ?_
      rintro e w' ⟨r1, r2, rfl, t1, t2, rfl⟩
      obtain ⟨q1, q2, hq, u1, u2⟩ := FC_cadd F1.out F2.out t1 t2 S3.out S4.out
      have hM := run_complex_sum (P := Tryd.prog) w' .add (.inl rfl) 51 _ _ _ _ _ _ _ hq
      have U1 : Hid _ := u1
      have U2 : Hid _ := u2
      clear u1 u2 hq t1 t2
      go_wp2
      go_roundg (512 - (k + 1))
      case measure => omega
      case rel => exact ⟨k + 1, q1, q2, rfl, by go_num, by omega, by omega, U1, U2, rfl⟩
    · have e : k = 512 := by omega
      subst e
      go_wp2
      go_ret2
      exact ⟨_, _, rfl, F1.out, F2.out, rfl⟩

set_option maxHeartbeats 400000 in
theorem of_refuses (na : Option Addr) (m cap : Nat) (w : World) (h : m < 4096) :
    Calls Tryd.prog 27 #[.slice na m cap] w fun e w' => e = .returned (.tuple #[.complex .f64 0 0, .int .i64 1]) ∧ w' = w := by
  have h1 : ((m : Int) != 4096) = true := by simp; omega
  go_enter Tryd.func27, Tryd.ntmps27
  go_wp2
  go_ret2
  exact ⟨rfl, rfl⟩

end Go.Proofs.YtpjlmmiceiionaaDoor
