/- DigestAdds: the sum of a page is the sum of its words', each turned by its place. -/
import Derived.Test.YtcejdeafdlbheaaD7
namespace Go.Proofs.Ytcejdeafdlbheaa
open Go.RowKit

theorem or_next (n M a c : Nat) (hM : 2 ^ n = M) (ha : a < M) (hn : n ≤ 56) (hc : c < 256) : ∃ r : Nat, bits .or .u64 ((a : Int) * 256) (c : Int) = (r : Int) ∧ r = a * 256 + c ∧ (a : Int) < 72057594037927936 := by
  have h56 : M ≤ 2 ^ 56 := by rw [← hM]; exact Nat.pow_le_pow_right (by decide) hn
  rw [show (2 : Nat) ^ 56 = 72057594037927936 from rfl] at h56
  have := or_low a c hc (by omega)
  rw [Int.natCast_mul] at this
  exact ⟨_, this, rfl, by omega⟩

theorem BS.at0 {w : World} {b k : Nat} {f : Nat → Nat} (H : BS w b 0 4096 f) (hk : k < 512) (i : Nat) (hi : i < 8) : w.cell? ⟨b, 8 * k + i, none⟩ = some (.int .u8 (f (8 * k + i) : Nat)) := by
  have := H.cell (8 * k + i) (by omega)
  rwa [Nat.zero_add] at this

set_option maxHeartbeats 4000000 in
set_option maxRecDepth 100000 in
theorem adds_any (na nb : Option Addr) (m cap mb capb : Nat) (fa fb : Nat → Int) (w : World) (NA : NSK .i64 w na m fa) (NB : NSK .u8 w nb mb fb) :
    Calls Try.prog 6 #[.slice na m cap, .slice nb mb capb] w fun e w' => e = .returned (.bool true) ∧ Kp w w' := by
  have c0 := page_any na nb m cap mb capb fa fb w NA NB
  clear NA NB
  go_enter Try.func6, Try.ntmps6
  go_wp2_with fail
  with_reducible refine c0.mono ?_
  rintro e w1 ⟨rfl, ⟨f, HB0⟩, hs, HK0⟩
  have HB : Aside (BS w1 w.heap.size 0 4096 f) := HB0
  have HK : Hid (Kp w w1) := HK0
  clear c0 hs HB0 HK0
  go_wp2_with fail
  go_loopg [6, 7] 512 (fun g v6 v7 wr => ∃ (k re im : Nat), v6 = .complex .f64 re im ∧ v7 = .int .i64 k ∧ k ≤ 512 ∧ 512 - k ≤ g ∧ Hid (FC re (sre f k)) ∧ Hid (FC im (sim f k)) ∧ wr = w1)
  case atStart => exact ⟨0, 0, 0, rfl, by go_num, by omega, by omega, FC_zero, FC_zero, rfl⟩
  case round =>
    obtain ⟨k, re, im, rfl, rfl, hk, hg, F1, F2, rfl⟩ := hrel
    by_cases hlt : k < 512
    · have y1 : (k : Int) < 512 := by omega
      have H := HB.out
      have hb := H.byte
      have l1 := hb.lo k
      have l2 := hb.hi k
      obtain ⟨v, hv⟩ : ∃ v, v = wd f k := ⟨_, rfl⟩
      have c2 := fun w => word_num v (lo f k) (hi f k) w (by rw [hv]; exact wd_lt hb k) (by rw [hv]; exact wd_lo hb k) (by rw [hv]; exact wd_hi hb k)
      have c3 := fun w => turn_wide (k % 4) _ _ (lo f k : Int) (hi f k : Int) (k : Int) w (FI_of_int _ (by omega)) (FI_of_int _ (by omega)) (by omega) (by omega) (kmod k)
      have s1 := sre_le hb (k + 1)
      have s2 := sim_le hb (k + 1)
      have s5 := sre_le hb k
      have s6 := sim_le hb k
      have t1 : (tre (k % 4) (lo f k : Int) (hi f k : Int)).natAbs ≤ 4294967296 := tre_le (by omega) (by omega)
      have t2 : (tim (k % 4) (lo f k : Int) (hi f k : Int)).natAbs ≤ 4294967296 := tim_le (by omega) (by omega)
      have r1 : sre f (k + 1) = sre f k + tre (k % 4) (lo f k) (hi f k) := rfl
      have r2 : sim f (k + 1) = sim f k + tim (k % 4) (lo f k) (hi f k) := rfl
      rw [r1] at s1
      rw [r2] at s2
      have c4 : Aside (∀ w c d, FC c (tre (k % 4) (lo f k) (hi f k)) → FC d (tim (k % 4) (lo f k) (hi f k)) → Calls Try.prog 15 #[.complex .f64 re im, .complex .f64 c d] w fun e w' => ∃ re im, e = .returned (.tuple #[.complex .f64 re im, .int .i64 0]) ∧ FC re (sre f (k + 1)) ∧ FC im (sim f (k + 1)) ∧ w' = w) := by
        intro w c d h1 h2
        exact add_same re im c d (sre f k) (sim f k) _ _ w F1.out.1 F2.out.1 h1.1 h2.1 (by omega) (by omega) (by omega) (by omega) (by omega) (by omega)
      clear s1 s2 s5 s6 t1 t2 r1 r2 l1 l2
      have d0 := H.at0 hlt 0 (by omega)
      have b0 := hb (8 * k + 0)
      have d1 := H.at0 hlt 1 (by omega)
      have b1 := hb (8 * k + 1)
      have d2 := H.at0 hlt 2 (by omega)
      have b2 := hb (8 * k + 2)
      have d3 := H.at0 hlt 3 (by omega)
      have b3 := hb (8 * k + 3)
      have d4 := H.at0 hlt 4 (by omega)
      have b4 := hb (8 * k + 4)
      have d5 := H.at0 hlt 5 (by omega)
      have b5 := hb (8 * k + 5)
      have d6 := H.at0 hlt 6 (by omega)
      have b6 := hb (8 * k + 6)
      have d7 := H.at0 hlt 7 (by omega)
      have b7 := hb (8 * k + 7)
      have hw : v = f (8 * k + 0) + 256 * f (8 * k + 1) + 65536 * f (8 * k + 2) + 16777216 * f (8 * k + 3) + 4294967296 * (f (8 * k + 4) + 256 * f (8 * k + 5) + 65536 * f (8 * k + 6) + 16777216 * f (8 * k + 7)) := hv
      rw [Nat.add_zero] at d0 b0 hw
      generalize f (8 * k) = f0 at d0 b0 hw
      generalize f (8 * k + 1) = f1 at d1 b1 hw
      generalize f (8 * k + 2) = f2 at d2 b2 hw
      generalize f (8 * k + 3) = f3 at d3 b3 hw
      generalize f (8 * k + 4) = f4 at d4 b4 hw
      generalize f (8 * k + 5) = f5 at d5 b5 hw
      generalize f (8 * k + 6) = f6 at d6 b6 hw
      generalize f (8 * k + 7) = f7 at d7 b7 hw
      obtain ⟨a7, o7, e7, x7⟩ := or_next 0 1 0 f7 rfl (by omega) (by omega) b7
      obtain ⟨a6, o6, e6, x6⟩ := or_next 8 256 a7 f6 rfl (by omega) (by omega) b6
      obtain ⟨a5, o5, e5, x5⟩ := or_next 16 65536 a6 f5 rfl (by omega) (by omega) b5
      obtain ⟨a4, o4, e4, x4⟩ := or_next 24 16777216 a5 f4 rfl (by omega) (by omega) b4
      obtain ⟨a3, o3, e3, x3⟩ := or_next 32 4294967296 a4 f3 rfl (by omega) (by omega) b3
      obtain ⟨a2, o2, e2, x2⟩ := or_next 40 1099511627776 a3 f2 rfl (by omega) (by omega) b2
      obtain ⟨a1, o1, e1, x1⟩ := or_next 48 281474976710656 a2 f1 rfl (by omega) (by omega) b1
      obtain ⟨a0, o0, e0, x0⟩ := or_next 56 72057594037927936 a1 f0 rfl (by omega) (by omega) b0
      have p7 : bits .or .u64 0 (f7 : Int) = a7 := o7
      have y0 : (f0 : Int) < 256 := by omega
      have y1 : (f1 : Int) < 256 := by omega
      have y2 : (f2 : Int) < 256 := by omega
      have y3 : (f3 : Int) < 256 := by omega
      have y4 : (f4 : Int) < 256 := by omega
      have y5 : (f5 : Int) < 256 := by omega
      have y6 : (f6 : Int) < 256 := by omega
      have y7 : (f7 : Int) < 256 := by omega
      have hr : v = a0 := by omega
      subst hr
      clear e0 b0 e1 b1 e2 b2 e3 b3 e4 b4 e5 b5 e6 b6 e7 b7 hw o7 x7 hv H hb
      go_wp2_with fail
      refine wp_loop_rounds 9 ?_
      rw [rounds_succ]; go_wp2
      rw [rounds_succ]; go_wp2
      rw [rounds_succ]; go_wp2
      rw [rounds_succ]; go_wp2
      rw [rounds_succ]; go_wp2
      rw [rounds_succ]; go_wp2
      rw [rounds_succ]; go_wp2
      rw [rounds_succ]; go_wp2
      rw [rounds_succ]; go_wp2_with ((go_at_call 12; with_reducible refine (c2 _).mono ?_; rintro e w' ⟨rfl, rfl⟩))
      with_reducible refine (c3 _).mono ?_
      rintro e w' ⟨r1, r2, rfl, h1, h2, rfl⟩
      have c5 := fun w => c4.out w _ _ h1 h2
      clear h1 h2 c4
      go_wp2_with fail
      with_reducible refine (c5 _).mono ?_
      rintro e w' ⟨s1, s2, rfl, h1, h2, rfl⟩
      have G1 : Hid _ := h1
      have G2 : Hid _ := h2
      clear h1 h2 c5
      go_wp2
      go_roundg (512 - (k + 1))
      case measure => omega
      case rel => exact ⟨k + 1, s1, s2, rfl, by go_num, by omega, by omega, G1, G2, rfl⟩
    · have e : k = 512 := by omega
      subst e
      have c6 := of_any w.heap.size 0 4096 f wr HB.out (by omega)
      go_wp2_with fail
      with_reducible refine c6.mono ?_
      rintro e w' ⟨r1, r2, rfl, h1, h2, rfl⟩
      have o1 := same_num h1.1 F1.out.1 rfl
      have o2 := same_num h2.1 F2.out.1 rfl
      have c7 := fun w => cleanIs_any r1 r2 _ _ w h1 h2
      clear h1 h2 F1 F2 c6
      go_wp2_with (first | (go_at_call 10; with_reducible refine (told_any _).mono ?_; rintro e w2 ⟨rfl, g9⟩) | (go_at_call 11; with_reducible refine (c7 _).mono ?_; rintro e w' ⟨rfl, rfl⟩))
      go_ret
      exact ⟨rfl, HK.out.trans g9⟩

end Go.Proofs.Ytcejdeafdlbheaa
