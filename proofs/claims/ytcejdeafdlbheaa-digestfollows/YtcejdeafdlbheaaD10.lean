/- DigestFollows: the walk. -/
import Derived.Test.YtcejdeafdlbheaaD9
namespace Go.Proofs.Ytcejdeafdlbheaa
open Go.RowKit

theorem byte_of (u M : Nat) : ((u : Int) / (M : Int)) % 256 = ((u / M % 256 : Nat) : Int) := by
  rw [Int.natCast_emod, Int.natCast_ediv]; rfl

set_option maxHeartbeats 8000000 in
set_option maxRecDepth 100000 in
theorem follows_any (na nb nk nw : Option Addr) (m cap mb capb mk capk mw capw : Nat) (fa fb fk fw : Nat → Int) (w : World) (NA : NSK .i64 w na m fa) (NB : NSK .u8 w nb mb fb) (NK : NSK .i64 w nk mk fk) (NW : NSK .u64 w nw mw fw) :
    Calls Try.prog 4 #[.slice na m cap, .slice nb mb capb, .slice nk mk capk, .slice nw mw capw] w fun e w' => e = .returned (.bool true) ∧ Kp w w' := by
  have c0 := page_any na nb m cap mb capb fa fb w NA NB
  have KK : Aside (NSK .i64 w nk mk fk) := NK
  have WW : Aside (NSK .u64 w nw mw fw) := NW
  clear NA NB NK NW
  go_enter Try.func4, Try.ntmps4
  go_wp2_with fail
  with_reducible refine c0.mono ?_
  rintro e w1 ⟨rfl, ⟨f0, HB0⟩, hs, HK0⟩
  have c1 := of_any w.heap.size 0 4096 f0 w1 HB0 (by omega)
  have HB : Hid (BS w1 w.heap.size 0 4096 f0) := HB0
  have HK : Hid (Kp w w1) := HK0
  clear c0 hs HB0 HK0
  go_wp2_with fail
  with_reducible refine c1.mono ?_
  rintro e w' ⟨r1, r2, rfl, h1, h2, rfl⟩
  have F1 : Hid _ := h1
  have F2 : Hid _ := h2
  clear h1 h2 c1
  go_wp2_with fail
  go_loopg [10, 12] 20 (fun g v10 v12 wr => ∃ (i re im : Nat) (f : Nat → Nat), v10 = .complex .f64 re im ∧ v12 = .int .i64 i ∧ i ≤ 20 ∧ 20 - i ≤ g ∧ Hid (FC re (sre f 512)) ∧ Hid (FC im (sim f 512)) ∧ Hid (BS wr w.heap.size 0 4096 f) ∧ Hid (Kp w wr))
  case atStart => exact ⟨0, r1, r2, f0, rfl, by go_num, by omega, by omega, F1, F2, HB, HK⟩
  case round =>
    clear F1 F2 HB HK
    obtain ⟨i, re, im, f, rfl, rfl, hi20, hg, F1, F2, HB, HK⟩ := hrel
    by_cases hlt : i < mk ∧ i < mw ∧ i < 20
    · obtain ⟨h1, h2, h3⟩ := hlt
      have y1 : (i : Int) < mk := by omega
      have y2 : (i : Int) < mw := by omega
      have y3 : (i : Int) < 20 := by omega
      obtain ⟨⟨kb, ko, rfl, q1, q2⟩, _⟩ := KK.out i h1
      obtain ⟨⟨wb, wo, rfl, q3, q4⟩, q5⟩ := WW.out i h2
      rw [← HK.out.cell (p := ⟨kb, ko + i, none⟩) q1] at q2
      rw [← HK.out.cell (p := ⟨wb, wo + i, none⟩) q3] at q4
      obtain ⟨u, hu, hu2⟩ : ∃ v : Nat, fw i = (v : Int) ∧ v < 18446744073709551616 := ⟨(fw i).toNat, by have := wf_u64 q5; omega, by have := wf_u64 q5; omega⟩
      obtain ⟨t, k, e1, e2, e3, e4, e5⟩ := place_of (fk i) 512 (by decide)
      rw [show ((512 : Nat) : Int) = 512 from rfl] at e1 e2 e3 e4
      rw [hu] at q4
      generalize fk i = x at *
      have e6 : (k : Int) < 512 := by omega
      have S0 : FSt w wr w.heap.size wb (wo + i) u f := ⟨HB.out, HK.out, q4, by omega, Nat.le_refl _⟩
      have hb := HB.out.byte
      have H := HB.out
      have SS : Hid _ := S0
      obtain ⟨v, hv⟩ : ∃ v, v = wd f k := ⟨_, rfl⟩
      have c2 : Aside (∀ w, Calls Try.prog 14 #[.complex .f64 re im, .int .i64 (k : Int), .int .u64 (v : Int), .int .u64 (u : Int)] w fun e w' => ∃ re im, e = .returned (.tuple #[.complex .f64 re im, .int .i64 0]) ∧ FC re (sre f 512 + tre (k % 4) (((u % 4294967296 : Nat) : Int) - (lo f k : Nat)) (((u / 4294967296 : Nat) : Int) - (hi f k : Nat))) ∧ FC im (sim f 512 + tim (k % 4) (((u % 4294967296 : Nat) : Int) - (lo f k : Nat)) (((u / 4294967296 : Nat) : Int) - (hi f k : Nat))) ∧ w' = w) := fun w => change_any re im (sre f 512) (sim f 512) k v u (lo f k) (hi f k) (u % 4294967296) (u / 4294967296) w F1.out.1 F2.out.1 e5 (by rw [hv]; exact wd_lt hb k) hu2 (by rw [hv]; exact wd_lo hb k) (by rw [hv]; exact wd_hi hb k) rfl rfl (by have := sre_le hb 512; omega) (by have := sim_le hb 512; omega)
      have hsum : Hid _ := follow_sum (f := f) k u e5 hu2
      have d0 := H.at0 e5 0 (by omega)
      have b0 := hb (8 * k + 0)
      have d1 := H.at0 e5 1 (by omega)
      have b1 := hb (8 * k + 1)
      have d2 := H.at0 e5 2 (by omega)
      have b2 := hb (8 * k + 2)
      have d3 := H.at0 e5 3 (by omega)
      have b3 := hb (8 * k + 3)
      have d4 := H.at0 e5 4 (by omega)
      have b4 := hb (8 * k + 4)
      have d5 := H.at0 e5 5 (by omega)
      have b5 := hb (8 * k + 5)
      have d6 := H.at0 e5 6 (by omega)
      have b6 := hb (8 * k + 6)
      have d7 := H.at0 e5 7 (by omega)
      have b7 := hb (8 * k + 7)
      have hw : v = f (8 * k + 0) + 256 * f (8 * k + 1) + 65536 * f (8 * k + 2) + 16777216 * f (8 * k + 3) + 4294967296 * (f (8 * k + 4) + 256 * f (8 * k + 5) + 65536 * f (8 * k + 6) + 16777216 * f (8 * k + 7)) := hv
      rw [Nat.add_zero] at d0 b0 hw
      generalize f (8 * k) = f0 at d0 b0 hw
      generalize f (8 * k + 1) = f1 at d1 b1 hw
      generalize f (8 * k + 2) = f2 at d2 b2 hw
      generalize f (8 * k + 3) = f3 at d3 b3 hw
      generalize f (8 * k + 4) = f4 at d4 b4 hw
      generalize f (8 * k + 5) = f5 at d5 b5 hw
      generalize f (8 * k + 6) = f6 at d6 b6 hw
      generalize f (8 * k + 7) = f7 at d7 b7 hw
      obtain ⟨a7, o7, g7, x7⟩ := or_next 0 1 0 f7 rfl (by omega) (by omega) b7
      obtain ⟨a6, o6, g6, x6⟩ := or_next 8 256 a7 f6 rfl (by omega) (by omega) b6
      obtain ⟨a5, o5, g5, x5⟩ := or_next 16 65536 a6 f5 rfl (by omega) (by omega) b5
      obtain ⟨a4, o4, g4, x4⟩ := or_next 24 16777216 a5 f4 rfl (by omega) (by omega) b4
      obtain ⟨a3, o3, g3, x3⟩ := or_next 32 4294967296 a4 f3 rfl (by omega) (by omega) b3
      obtain ⟨a2, o2, g2, x2⟩ := or_next 40 1099511627776 a3 f2 rfl (by omega) (by omega) b2
      obtain ⟨a1, o1, g1, x1⟩ := or_next 48 281474976710656 a2 f1 rfl (by omega) (by omega) b1
      obtain ⟨a0, o0, g0, x0⟩ := or_next 56 72057594037927936 a1 f0 rfl (by omega) (by omega) b0
      have p7 : bits .or .u64 0 (f7 : Int) = a7 := o7
      have z0 : (f0 : Int) < 256 := by omega
      have z1 : (f1 : Int) < 256 := by omega
      have z2 : (f2 : Int) < 256 := by omega
      have z3 : (f3 : Int) < 256 := by omega
      have z4 : (f4 : Int) < 256 := by omega
      have z5 : (f5 : Int) < 256 := by omega
      have z6 : (f6 : Int) < 256 := by omega
      have z7 : (f7 : Int) < 256 := by omega
      have hr : v = a0 := by omega
      subst hr
      clear g0 b0 g1 b1 g2 b2 g3 b3 g4 b4 g5 b5 g6 b6 g7 b7 hw o7 x7 hv H hb HB HK S0 F1 F2 hu q5 q1 q3
      go_wp2_with fail
      refine wp_loop_rounds 9 ?_
      rw [rounds_succ]; go_wp2
      rw [rounds_succ]; go_wp2
      rw [rounds_succ]; go_wp2
      rw [rounds_succ]; go_wp2
      rw [rounds_succ]; go_wp2
      rw [rounds_succ]; go_wp2
      rw [rounds_succ]; go_wp2
      rw [rounds_succ]; go_wp2
      clear d0 z0 d1 z1 d2 z2 d3 z3 d4 z4 d5 z5 d6 z6 d7 z7 o0 x0 o1 x1 o2 x2 o3 x3 o4 x4 o5 x5 o6 x6 p7
      rw [rounds_succ]; go_wp2_with fail
      have hu3 : (u : Int) < 18446744073709551616 := by omega
      refine wp_loop_rounds 9 ?_
      obtain ⟨k1, k2, k3⟩ := SS.out.facts (8 * k + 0) (by omega)
      have S1 := SS.out.set (8 * k + 0) (u % 256) (by omega) (by omega)
      have bv : (u : Int) % 256 = ((u % 256 : Nat) : Int) := by omega
      obtain ⟨v0, hv0⟩ : ∃ v, v = u % 256 := ⟨_, rfl⟩
      rw [← hv0] at bv S1
      have T0 : Hid _ := hv0
      clear hv0
      rw [Nat.add_zero] at k1 k2 S1
      rw [rounds_succ]; go_wp2
      clear k1 k2 k3 bv
      generalize wr.setCell ⟨w.heap.size, 8 * k, none⟩ (.int .u8 (v0 : Int)) = W1 at S1 ⊢
      replace S1 : Hid _ := S1
      clear SS
      obtain ⟨k1, k2, k3⟩ := S1.out.facts (8 * k + 1) (by omega)
      have S2 := S1.out.set (8 * k + 1) (u / 256 % 256) (by omega) (by omega)
      have bv : (u : Int) / 256 % 256 = ((u / 256 % 256 : Nat) : Int) := byte_of u 256
      obtain ⟨v1, hv1⟩ : ∃ v, v = u / 256 % 256 := ⟨_, rfl⟩
      rw [← hv1] at bv S2
      have T1 : Hid _ := hv1
      clear hv1
      rw [rounds_succ]; go_wp2
      clear k1 k2 k3 bv
      generalize W1.setCell ⟨w.heap.size, 8 * k + 1, none⟩ (.int .u8 (v1 : Int)) = W2 at S2 ⊢
      replace S2 : Hid _ := S2
      clear S1
      obtain ⟨k1, k2, k3⟩ := S2.out.facts (8 * k + 2) (by omega)
      have S3 := S2.out.set (8 * k + 2) (u / 65536 % 256) (by omega) (by omega)
      have bv : (u : Int) / 65536 % 256 = ((u / 65536 % 256 : Nat) : Int) := byte_of u 65536
      obtain ⟨v2, hv2⟩ : ∃ v, v = u / 65536 % 256 := ⟨_, rfl⟩
      rw [← hv2] at bv S3
      have T2 : Hid _ := hv2
      clear hv2
      rw [rounds_succ]; go_wp2
      clear k1 k2 k3 bv
      generalize W2.setCell ⟨w.heap.size, 8 * k + 2, none⟩ (.int .u8 (v2 : Int)) = W3 at S3 ⊢
      replace S3 : Hid _ := S3
      clear S2
      obtain ⟨k1, k2, k3⟩ := S3.out.facts (8 * k + 3) (by omega)
      have S4 := S3.out.set (8 * k + 3) (u / 16777216 % 256) (by omega) (by omega)
      have bv : (u : Int) / 16777216 % 256 = ((u / 16777216 % 256 : Nat) : Int) := byte_of u 16777216
      obtain ⟨v3, hv3⟩ : ∃ v, v = u / 16777216 % 256 := ⟨_, rfl⟩
      rw [← hv3] at bv S4
      have T3 : Hid _ := hv3
      clear hv3
      rw [rounds_succ]; go_wp2
      clear k1 k2 k3 bv
      generalize W3.setCell ⟨w.heap.size, 8 * k + 3, none⟩ (.int .u8 (v3 : Int)) = W4 at S4 ⊢
      replace S4 : Hid _ := S4
      clear S3
      obtain ⟨k1, k2, k3⟩ := S4.out.facts (8 * k + 4) (by omega)
      have S5 := S4.out.set (8 * k + 4) (u / 4294967296 % 256) (by omega) (by omega)
      have bv : (u : Int) / 4294967296 % 256 = ((u / 4294967296 % 256 : Nat) : Int) := byte_of u 4294967296
      obtain ⟨v4, hv4⟩ : ∃ v, v = u / 4294967296 % 256 := ⟨_, rfl⟩
      rw [← hv4] at bv S5
      have T4 : Hid _ := hv4
      clear hv4
      rw [rounds_succ]; go_wp2
      clear k1 k2 k3 bv
      generalize W4.setCell ⟨w.heap.size, 8 * k + 4, none⟩ (.int .u8 (v4 : Int)) = W5 at S5 ⊢
      replace S5 : Hid _ := S5
      clear S4
      obtain ⟨k1, k2, k3⟩ := S5.out.facts (8 * k + 5) (by omega)
      have S6 := S5.out.set (8 * k + 5) (u / 1099511627776 % 256) (by omega) (by omega)
      have bv : (u : Int) / 1099511627776 % 256 = ((u / 1099511627776 % 256 : Nat) : Int) := byte_of u 1099511627776
      obtain ⟨v5, hv5⟩ : ∃ v, v = u / 1099511627776 % 256 := ⟨_, rfl⟩
      rw [← hv5] at bv S6
      have T5 : Hid _ := hv5
      clear hv5
      rw [rounds_succ]; go_wp2
      clear k1 k2 k3 bv
      generalize W5.setCell ⟨w.heap.size, 8 * k + 5, none⟩ (.int .u8 (v5 : Int)) = W6 at S6 ⊢
      replace S6 : Hid _ := S6
      clear S5
      obtain ⟨k1, k2, k3⟩ := S6.out.facts (8 * k + 6) (by omega)
      have S7 := S6.out.set (8 * k + 6) (u / 281474976710656 % 256) (by omega) (by omega)
      have bv : (u : Int) / 281474976710656 % 256 = ((u / 281474976710656 % 256 : Nat) : Int) := byte_of u 281474976710656
      obtain ⟨v6, hv6⟩ : ∃ v, v = u / 281474976710656 % 256 := ⟨_, rfl⟩
      rw [← hv6] at bv S7
      have T6 : Hid _ := hv6
      clear hv6
      rw [rounds_succ]; go_wp2
      clear k1 k2 k3 bv
      generalize W6.setCell ⟨w.heap.size, 8 * k + 6, none⟩ (.int .u8 (v6 : Int)) = W7 at S7 ⊢
      replace S7 : Hid _ := S7
      clear S6
      obtain ⟨k1, k2, k3⟩ := S7.out.facts (8 * k + 7) (by omega)
      have S8 := S7.out.set (8 * k + 7) (u / 72057594037927936 % 256) (by omega) (by omega)
      have bv : (u : Int) / 72057594037927936 = ((u / 72057594037927936 % 256 : Nat) : Int) := by omega
      obtain ⟨v7, hv7⟩ : ∃ v, v = u / 72057594037927936 % 256 := ⟨_, rfl⟩
      rw [← hv7] at bv S8
      have T7 : Hid _ := hv7
      clear hv7
      rw [rounds_succ]; go_wp2
      clear k1 k2 k3 bv
      generalize W7.setCell ⟨w.heap.size, 8 * k + 7, none⟩ (.int .u8 (v7 : Int)) = W8 at S8 ⊢
      replace S8 : Hid _ := S8
      clear S7
      have S9 : FSt w W8 w.heap.size wb (wo + i) u (put f k u) := by have := S8.out; rw [T0.out, T1.out, T2.out, T3.out, T4.out, T5.out, T6.out, T7.out] at this; exact this
      have c3 := of_any w.heap.size 0 4096 (put f k u) W8 S9.bs (by omega)
      have k3 := S9.cell
      have c4 := c2.out W8
      have S10 : Hid _ := S9
      clear S9 S8 T0 T1 T2 T3 T4 T5 T6 T7 c2 hu2 hu3
      rw [rounds_succ]; go_wp2_with fail
      with_reducible refine c4.mono ?_
      rintro e w' ⟨s1, s2, rfl, j1, j2, rfl⟩
      rw [← hsum.out.1] at j1
      rw [← hsum.out.2] at j2
      go_wp2_with fail
      with_reducible refine c3.mono ?_
      rintro e w' ⟨s3, s4, rfl, j3, j4, rfl⟩
      have o1 := same_num j1.1 j3.1 rfl
      have o2 := same_num j2.1 j4.1 rfl
      have J1 : Hid _ := j1
      have J2 : Hid _ := j2
      clear j1 j2 j3 j4 c3 c4 k3 hsum
      go_wp2
      go_roundg (20 - (i + 1))
      case measure => omega
      case rel => exact ⟨i + 1, s1, s2, put f k u, rfl, by go_num, by omega, by omega, J1, J2, S10.out.bs, S10.out.kp⟩
    · have out : ∀ Z : Prop, (¬ (i : Int) < mk → Z) → ((i : Int) < mk → ¬ (i : Int) < mw → Z) → ((i : Int) < mk → (i : Int) < mw → ¬ (i : Int) < 20 → Z) → Z := fun Z k1 k2 k3 => by
        by_cases h : i < mk
        · by_cases h' : i < mw
          · exact k3 (by omega) (by omega) (by omega)
          · exact k2 (by omega) (by omega)
        · exact k1 (by omega)
      refine out _ (fun y1 => ?_) (fun y1 y2 => ?_) (fun y1 y2 y3 => ?_)
      all_goals
        clear out hlt
        go_wp2_with (go_at_call 10; with_reducible refine (told_any _).mono ?_; rintro e w2 ⟨rfl, g9⟩)
        go_ret
        exact ⟨rfl, HK.out.trans g9⟩

end Go.Proofs.Ytcejdeafdlbheaa
