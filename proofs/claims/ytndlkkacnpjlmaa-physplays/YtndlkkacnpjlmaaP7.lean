/- What the program tells of a few (layer 5). -/
import Derived.Test.YtndlkkacnpjlmaaP6
namespace Go.Proofs.Ytndlkkacnpjlmaa
open Go.RowKit Go.Maps

/-- The memory of told, behind its Write. -/
def tf : Nat → Nat → Nat := putFr (fun _ => z0) 1 (putF z0 0 2 197121)
theorem tf_0 : tf 0 = z0 := putFr_other _ _ _ _ (by decide)
theorem tf_1 : tf 1 = putF z0 0 2 197121 := putFr_same _ _ _
theorem tf_read : numb (tf 1) 1 1 = 2 := by rw [tf_1]; decide
theorem tf_clear0 : clearF 2 tf 0 = true := by
  unfold clearF
  rw [show (0 : Int).toNat = 0 from rfl, tf_0, alike_of (fun _ _ => rfl)]; decide
theorem tf_1_ne : tf 1 0 ≠ z0 0 := by rw [tf_1]; decide
theorem tf_clear1 : clearF 2 tf 1 = false := by
  unfold clearF
  rw [show (1 : Int).toNat = 1 from rfl, alike_not (by decide) tf_1_ne]; decide
theorem tf_same : sameF 2 tf 0 1 = false := by
  unfold sameF
  rw [show (0 : Int).toNat = 0 from rfl, show (1 : Int).toNat = 1 from rfl, tf_0, alike_not (f := z0) (g := tf 1) (i := 0) (by decide) (fun e => tf_1_ne e.symm)]; decide
theorem tf_same2 : sameF 2 (putFr tf 1 z0) 0 1 = true := by
  unfold sameF
  rw [show (0 : Int).toNat = 0 from rfl, show (1 : Int).toNat = 1 from rfl, putFr_same, putFr_other _ _ _ _ (by decide), tf_0, alike_of (fun _ _ => rfl)]; decide

set_option maxHeartbeats 4000000 in
set_option maxRecDepth 10000 in
theorem ptold_any (w : World) : Calls Try.prog 26 #[] w fun e w' => e = .returned (.bool true) ∧ Kp w w' := by
  have k1 : Calls Try.prog 7 #[.int .i64 2] w fun e w' => ∃ p S, e = .returned (.tuple #[.pointer (some ⟨p, 0, none⟩), .int .i64 0]) ∧ PM w' S p 2 0 (fun _ => z0) ∧ Kp w w' ∧ ∀ k, S k → w.heap.size ≤ k := new_ok 2 w (by omega) (by omega)
  have k2 := fun w => new_no 0 w (.inl (by omega))
  go_enter Try.func26, Try.ntmps26
  go_wp2_with fail
  with_reducible refine k1.mono ?_
  rintro e w1 ⟨p, S, rfl, P1, K1, H1⟩
  clear k1
  have k3 := pframes_any P1
  have k4 : Calls Try.prog 9 #[.pointer (some ⟨p, 0, none⟩), .int .u64 4096, .int .i64 2, .int .u64 197121] w1 fun e w' => e = .returned (.int .i64 0) ∧ ∃ S', PM w' S' p 2 1 tf ∧ Fr S w1 w' ∧ Less S S' w1 := pwrite_ok P1 4096 2 197121 (by omega) (by decide) (by omega) (by omega)
  rw [show ((2 : Nat) : Int) = 2 from rfl] at k3
  have HK : Hid (Kp w w1 ∧ ∀ k, S k → w.heap.size ≤ k) := ⟨K1, H1⟩
  clear P1 K1 H1
  go_wp2_with (first | (go_at_call 7; with_reducible refine (k2 _).mono ?_; rintro e w' ⟨rfl, rfl⟩) | (go_at_call 25; with_reducible refine k3.mono ?_; rintro e w' ⟨rfl, rfl⟩))
  with_reducible refine k4.mono ?_
  rintro e w2 ⟨rfl, S2, P2, F2, L2⟩
  clear k2 k3 k4
  have HK2 : Hid (Kp w w2 ∧ ∀ k, S2 k → w.heap.size ≤ k) := ⟨F2.kp HK.out.1 HK.out.2, fun k hk => (L2 k hk).elim (HK.out.2 k) (fun h => Nat.le_trans HK.out.1.size h)⟩
  have k5 : Calls Try.prog 11 #[.pointer (some ⟨p, 0, none⟩), .int .u64 8192, .int .i64 1] w2 fun e w' => e = .returned (.tuple #[.int .u64 0, .int .i64 2]) ∧ w' = w2 := pread_no P2 8192 1 2 (by omega) (by decide) (by decide)
  have k6 : Calls Try.prog 11 #[.pointer (some ⟨p, 0, none⟩), .int .u64 4090, .int .i64 4] w2 fun e w' => e = .returned (.tuple #[.int .u64 0, .int .i64 3]) ∧ w' = w2 := pread_no P2 4090 4 3 (by omega) (by decide) (by decide)
  have k7 : Calls Try.prog 11 #[.pointer (some ⟨p, 0, none⟩), .int .u64 4097, .int .i64 1] w2 fun e w' => e = .returned (.tuple #[.int .u64 2, .int .i64 0]) ∧ PM w' S2 p 2 2 tf ∧ Fr S2 w2 w' := (pread_ok P2 4097 1 (by omega) (by decide) (by omega)).mono fun e w' h => ⟨by rw [h.1, show 4097 / 4096 = 1 from rfl, show 4097 % 4096 = 1 from rfl, tf_read]; rfl, h.2⟩
  clear P2 F2 L2 HK
  go_wp2_with (first | (go_at_call 11; with_reducible refine k5.mono ?_; rintro e w' ⟨rfl, rfl⟩) | (go_at_call 11; with_reducible refine k6.mono ?_; rintro e w' ⟨rfl, rfl⟩))
  with_reducible refine k7.mono ?_
  rintro e w3 ⟨rfl, P3, F3⟩
  clear k5 k6 k7
  have HK3 : Hid (Kp w w3 ∧ ∀ k, S2 k → w.heap.size ≤ k) := ⟨F3.kp HK2.out.1 HK2.out.2, HK2.out.2⟩
  have k8 := pclear_any P3 0 (by decide)
  have k9 := pclear_any P3 1 (by decide)
  have k10 := psame_any P3 0 1
  rw [tf_clear0] at k8
  rw [tf_clear1] at k9
  rw [tf_same] at k10
  have HP : Hid (PM w3 S2 p 2 2 tf) := P3
  clear P3 F3 HK2
  go_wp2_with (first | (go_at_call 20; with_reducible refine k8.mono ?_; rintro e w' ⟨rfl, rfl⟩) | (go_at_call 20; with_reducible refine k9.mono ?_; rintro e w' ⟨rfl, rfl⟩))
  with_reducible refine k10.mono ?_
  rintro e w4 ⟨rfl, D4⟩
  clear k8 k9 k10
  have P4 := HP.out.kp D4.kp
  have HK4 : Hid (Kp w w4 ∧ ∀ k, S2 k → w.heap.size ≤ k) := ⟨HK3.out.1.trans D4.kp, HK3.out.2⟩
  have k11 := pops_any P4
  rw [show ((2 : Nat) : Int) = 2 from rfl] at k11
  have k12 : Calls Try.prog 16 #[.pointer (some ⟨p, 0, none⟩), .int .i64 1] w4 fun e w' => e = .returned (.int .i64 0) ∧ PM w' S2 p 2 2 (putFr tf 1 z0) ∧ Fr S2 w4 w' := pzero_ok P4 1 (by omega)
  clear P4 D4 HP HK3
  go_wp2_with (go_at_call 24; with_reducible refine k11.mono ?_; rintro e w' ⟨rfl, rfl⟩)
  with_reducible refine k12.mono ?_
  rintro e w5 ⟨rfl, P5, F5⟩
  clear k11 k12
  have HK5 : Hid (Kp w w5) := F5.kp HK4.out.1 HK4.out.2
  have k13 := psame_any P5 0 1
  rw [tf_same2] at k13
  clear P5 F5 HK4
  go_wp2_with fail
  with_reducible refine k13.mono ?_
  rintro e w6 ⟨rfl, D6⟩
  have HK6 : Hid (Kp w w6) := HK5.out.trans D6.kp
  clear k13 D6
  go_wp2
  go_ret
  exact ⟨rfl, HK6.out⟩

end Go.Proofs.Ytndlkkacnpjlmaa
