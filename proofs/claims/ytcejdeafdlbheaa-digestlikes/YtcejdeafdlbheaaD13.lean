/- DigestLikes: the walk. -/
import Derived.Test.YtcejdeafdlbheaaD12
namespace Go.Proofs.Ytcejdeafdlbheaa
open Go.RowKit

set_option maxHeartbeats 8000000 in
set_option maxRecDepth 100000 in
theorem likes_any (na nb : Option Addr) (m cap mb capb : Nat) (fa fb : Nat → Int) (x2 x3 x4 : Int) (w : World) (NA : NSK .i64 w na m fa) (NB : NSK .u8 w nb mb fb) :
    Calls Try.prog 5 #[.slice na m cap, .slice nb mb capb, .int .i64 x2, .int .i64 x3, .int .i64 x4] w fun e w' => e = .returned (.bool true) ∧ Kp w w' := by
  have c0 := page_any na nb m cap mb capb fa fb w NA NB
  clear NA NB
  obtain ⟨t2, k, e1, e2, e3, e4, e5⟩ := place_of x2 256 (by decide)
  rw [show ((256 : Nat) : Int) = 256 from rfl] at e1 e2 e3 e4
  obtain ⟨t3, p3, g1, g2, g3, g4, g5⟩ := place_of x3 200 (by decide)
  rw [show ((200 : Nat) : Int) = 200 from rfl] at g1 g2 g3 g4
  obtain ⟨F, hF⟩ : ∃ F : Nat, 1 + (p3 : Int) = (F : Int) := ⟨1 + p3, by omega⟩
  have q1 := mask4 x4
  obtain ⟨v, hv⟩ : ∃ v : Int, v = x4 % 16 := ⟨_, rfl⟩
  rw [← hv] at q1
  have v0 : 0 ≤ v := by omega
  have v1 : v < 16 := by omega
  clear hv
  obtain ⟨n, hn⟩ : ∃ n : Nat, 1 + v = (n : Int) := ⟨(1 + v).toNat, by omega⟩
  have n1 : (1 : Int) ≤ n := by omega
  have n2 : (n : Int) ≤ 16 := by omega
  have f1 : (1 : Int) ≤ F := by omega
  have f2 : (F : Int) ≤ 200 := by omega
  have k1 : (k : Int) < 256 := by omega
  have p1 : (p3 : Int) < 200 := by omega
  go_enter Try.func5, Try.ntmps5
  go_wp2_with fail
  with_reducible refine c0.mono ?_
  rintro e w1 ⟨rfl, ⟨f, HB0⟩, hs, HK0⟩
  obtain ⟨ga, ca, W2, ha, hga, hca, hB2, hK2, _⟩ := copy_page w1 w.heap.size 4096 f HB0
  have HB : Hid (BS W2 ga 0 4096 f) := hB2
  have HK : Hid (Kp w W2) := HK0.trans hK2
  have HG : Hid (w.heap.size ≤ ga) := Nat.le_trans HK0.size hga
  have HS : Hid (ga < W2.heap.size) := hB2.lt
  clear c0 HB0 HK0 hs hB2 hK2 hga
  have l1 : (4096 : Int) ≤ ca := by omega
  go_wp2_with fail
  clear e1 e2 e3 e4 g1 g2 g3 g4 q1 v0 v1 hn hF p1
  refine wp_append_run (.tmp 34) (.tmp 35) 23 rfl rfl rfl ha ?_
  clear ha
  have k2 : 8 * k + 3 < 4096 := by omega
  have k3 : 8 * (k + F) + 3 < 4096 := by omega
  have B1 := HB.out.set (8 * k + 3) 0 k2 (by decide)
  have B2 := B1.set (8 * (k + F) + 3) 100 k3 (by decide)
  have r1 := HB.out.cell _ k2
  have r2 := HB.out.frz _ k2
  have r3 := B1.cell _ k3
  have r4 := B1.frz _ k3
  have K2 := (HK.out.set ⟨ga, 8 * k + 3, none⟩ (.int .u8 0) HG.out).set ⟨ga, 8 * (k + F) + 3, none⟩ (.int .u8 100) HG.out
  rw [Nat.zero_add] at r1 r2 r3 r4 B2
  rw [Nat.zero_add] at r3 r4 B2
  generalize f (8 * k + 3) = u1 at r1
  generalize upd f (8 * k + 3) 0 (8 * (k + F) + 3) = u2 at r3
  rw [show ((0 : Nat) : Int) = 0 from rfl] at r3 r4 B2
  rw [show ((100 : Nat) : Int) = 100 from rfl] at B2
  clear B1
  obtain ⟨W3, hW3⟩ : ∃ W3, W3 = (W2.setCell ⟨ga, 8 * k + 3, none⟩ (.int .u8 0)).setCell ⟨ga, 8 * (k + F) + 3, none⟩ (.int .u8 100) := ⟨_, rfl⟩
  rw [← hW3] at B2 K2
  have HB2 : Hid (BS W3 ga 0 4096 (base2 f k F)) := B2
  have HK2 : Hid (Kp w W3) := K2
  have HW3 : Hid _ := hW3
  clear B2 K2 hW3 HB HK
  go_wp2_with fail
  clear r1 r2 r3 r4
  have hs3 : W3.heap.size = W2.heap.size := by rw [HW3.out]; simp
  rw [← HW3.out, ← hs3]
  obtain ⟨gb, cb, W4, ha, hgb, hcb, hB4, hK4, _⟩ := copy_page W3 ga ca (base2 f k F) HB2.out
  refine wp_append_run (.tmp 49) (.tmp 50) 23 rfl rfl rfl ha ?_
  have l2 : (4096 : Int) ≤ cb := by omega
  have hne : ga ≠ gb := by have := HB2.out.lt; omega
  have B3 := HB2.out.kp hK4
  have K4 := HK2.out.trans hK4
  clear ha hgb hK4 HB2 HK2 HW3 hs3 HS
  have n3 : n ≤ 16 := by omega
  have B4 := B3.set (8 * k + 3) n k2 (by omega)
  have B5 := B4.set (8 * (k + F) + 3) (100 - n) k3 (by omega)
  have A4 := hB4.set_other (8 * k + 3) (.int .u8 (n : Int)) hne
  have A5 := A4.set_other (8 * (k + F) + 3) (.int .u8 ((100 - n : Nat) : Int)) hne
  have r1 := B3.cell _ k2
  have r2 := B3.frz _ k2
  have r3 := B4.cell _ k3
  have r4 := B4.frz _ k3
  have K5 := (K4.set ⟨ga, 8 * k + 3, none⟩ (.int .u8 (n : Int)) HG.out).set ⟨ga, 8 * (k + F) + 3, none⟩ (.int .u8 ((100 - n : Nat) : Int)) HG.out
  rw [Nat.zero_add] at r1 r2 r3 r4 B5
  rw [Nat.zero_add] at r3 r4 B5
  generalize base2 f k F (8 * k + 3) = u3 at r1
  generalize upd (base2 f k F) (8 * k + 3) n (8 * (k + F) + 3) = u4 at r3
  obtain ⟨n', hn'⟩ : ∃ n' : Nat, n' = 100 - n := ⟨_, rfl⟩
  have hn2 : (100 : Int) - n = n' := by omega
  rw [← hn'] at A5 B5 K5
  obtain ⟨W5, hW5⟩ : ∃ W5, W5 = (W4.setCell ⟨ga, 8 * k + 3, none⟩ (.int .u8 (n : Int))).setCell ⟨ga, 8 * (k + F) + 3, none⟩ (.int .u8 (n' : Int)) := ⟨_, rfl⟩
  rw [← hW5] at A5 B5 K5
  rw [hn'] at B5
  have HA : Hid (BS W5 gb 0 4096 (base2 f k F)) := A5
  have HB : Hid (BS W5 ga 0 4096 (next2 f k F n)) := B5
  have HK : Hid (Kp w W5) := K5
  have HW : Hid _ := hW5
  have n4 : (n' : Int) ≤ 100 := by omega
  clear B3 B4 A4 A5 B5 hB4 K4 K5 hW5 hn'
  go_wp2_with fail
  clear r1 r2 r3 r4
  rw [← HW.out]
  have c1 := of_any gb 0 cb _ W5 HA.out hcb
  have c2 := of_any ga 0 ca _ W5 HB.out hca
  have HL : Hid _ := likes_sum f k F n e5 (by omega) (by omega) (by omega) n3
  clear HA HB HW hn2 n4 k2 k3 n1 n2 n3 k1 l1 l2 hca hcb e5 g5
  with_reducible refine c1.mono ?_
  rintro e w' ⟨a1, a2, rfl, j1, j2, rfl⟩
  clear c1
  have J1 : Hid _ := j1
  have J2 : Hid _ := j2
  clear j1 j2
  go_wp2_with fail
  with_reducible refine c2.mono ?_
  rintro e w' ⟨b1, b2, rfl, j3, j4, rfl⟩
  clear c2
  have o1 := ord_eq J1.out.1 j3.1
  have o2 := ord_eq J2.out.1 j4.1
  have hl := HL.out
  generalize sre (base2 f k F) 512 = A at *
  generalize sim (base2 f k F) 512 = B at *
  generalize sre (next2 f k F n) 512 = A' at *
  generalize sim (next2 f k F n) 512 = B' at *
  have hm : (F : Int).tmod 4 = ((F % 4 : Nat) : Int) := by rw [Int.tmod_eq_emod_of_nonneg (by omega)]; omega
  have hh : ((FloatKind.f64.format.order a1 b1 == some .eq) && (FloatKind.f64.format.order a2 b2 == some .eq)) = decide (F % 4 = 0) := by
    rw [o1, o2, ← Bool.decide_and]; exact decide_eq_decide.2 hl
  clear o1 o2 j3 j4 J1 J2 HL hl
  by_cases h4 : F % 4 = 0
  · rw [decide_eq_true h4] at hh
    rw [h4] at hm
    have hm' : (F : Int).tmod 4 = 0 := hm
    clear hm h4
    go_wp2_with (go_at_call 10; with_reducible refine (told_any _).mono ?_; rintro e w2 ⟨rfl, g9⟩)
    go_ret
    exact ⟨rfl, HK.out.trans g9⟩
  · rw [decide_eq_false h4] at hh
    have hm' : ((F : Int) % 4 == 0) = false := by simp; omega
    clear hm h4
    go_wp2_with (go_at_call 10; with_reducible refine (told_any _).mono ?_; rintro e w2 ⟨rfl, g9⟩)
    go_ret
    exact ⟨rfl, HK.out.trans g9⟩

end Go.Proofs.Ytcejdeafdlbheaa
