/- PhysEnds: the walk. -/
import Derived.Test.YtndlkkacnpjlmaaP7
import Derived.Test.YtndlkkacnpjlmaaMask
namespace Go.Proofs.Ytndlkkacnpjlmaa
open Go.RowKit Go.Maps

theorem and_down8 (u : Nat) (h : u < 18446744073709551616) : u &&& (18446744073709551615 - 7) = u / 8 * 8 := by
  have e1 : 18446744073709551615 - 7 = (2 ^ 61 - 1) <<< 3 := by decide
  have e2 : u / 8 * 8 = (u >>> 3) <<< 3 := by rw [Nat.shiftLeft_eq, Nat.shiftRight_eq_div_pow]
  rw [e1, e2]
  apply Nat.eq_of_testBit_eq
  intro i
  rw [Nat.testBit_and, Nat.testBit_shiftLeft, Nat.testBit_shiftLeft, Nat.testBit_shiftRight, Nat.testBit_two_pow_sub_one]
  by_cases c : 3 ≤ i
  · rw [show 3 + (i - 3) = i by omega, decide_eq_true (show i ≥ 3 from c)]
    by_cases d : i - 3 < 61
    · rw [decide_eq_true d]; simp
    · rw [decide_eq_false d, Nat.testBit_lt_two_pow (Nat.lt_of_lt_of_le h (show 18446744073709551616 ≤ 2 ^ i from Nat.pow_le_pow_right (n := 2) (by decide) (show 64 ≤ i by omega)))]; simp
  · rw [decide_eq_false (show ¬ i ≥ 3 from c)]; simp
theorem down8 (u : Nat) (h : u < 18446744073709551616) : bits .andNot .u64 (u : Int) 7 = ((u / 8 * 8 : Nat) : Int) := by
  have := u64_andNot_nat u 7 h (by decide)
  rw [and_down8 u h] at this
  exact this

theorem chkP_far {N addr s : Nat} (hs : Size s) (h8 : addr % 8 = 0) (h : N * 4096 ≤ addr) : chkP N addr s = 2 := by
  unfold chkP
  rw [if_neg (by unfold Size at hs; omega), if_neg (by rw [show ((s : Int)).toNat = s from rfl]; rcases hs with rfl | rfl | rfl | rfl <;> omega), if_pos (by omega)]
theorem chkP_in {N addr s : Nat} (hs : Size s) (h8 : addr % s = 0) (h : addr < N * 4096) : chkP N addr s = 0 := by
  unfold chkP
  rw [if_neg (by unfold Size at hs; omega), if_neg (by rw [show ((s : Int)).toNat = s from rfl]; omega), if_neg (by omega)]

set_option maxHeartbeats 4000000 in
set_option maxRecDepth 100000 in
theorem ends_1_0 (frames k : Int) (over m n E o8 : Nat) (w : World) (hm : bits .and .i64 frames 1048575 = (m : Int)) (z0 : 1 + (m : Int) = (n : Int)) (hn : 1 ≤ n ∧ n ≤ 1048576) (hk : bits .and .i64 k 3 = 0) (hE : E = n * 4096) (hd : bits .andNot .u64 (over : Int) 7 = (o8 : Int)) (hd2 : bits .andNot .u64 (o8 : Int) 7 = (o8 : Int)) (h8 : o8 % 8 = 0) (ho : o8 < 18446744073709551616) (hf : (o8 : Int) < E) :
    Calls Try.prog 5 #[.int .i64 frames, .int .u64 (over : Int), .int .i64 k] w fun e w' => e = .returned (.bool true) ∧ Kp w w' := by
  have k1 := new_ok n w hn.1 hn.2
  have z1 : (n : Int) ≤ 1048576 := by omega
  have O8 : Hid (o8 % 8 = 0 ∧ o8 < 18446744073709551616 ∧ o8 < E) := ⟨h8, ho, by omega⟩
  have HE : Hid (E = n * 4096 ∧ 1 ≤ n ∧ n ≤ 1048576) := ⟨hE, hn⟩
  have z3 : (n : Int) * 4096 = (E : Int) := by omega
  have z4 : (4096 : Int) ≤ E := by omega
  have z5 : (E : Int) ≤ 4294967296 := by omega
  have z6 : (1 : Int) ≤ n := by omega
  clear ho h8 hE hn
  go_enter Try.func5, Try.ntmps5
  go_wp2_with fail
  with_reducible refine k1.mono ?_
  rintro e w1 ⟨p, S, rfl, P1, K1, H1⟩
  clear k1
  have HK : Hid (Kp w w1 ∧ ∀ k, S k → w.heap.size ≤ k) := ⟨K1, H1⟩
  have k2 : Calls Try.prog 11 #[.pointer (some ⟨p, 0, none⟩), .int .u64 ((E : Int) - 1), .int .i64 1] w1 fun e w' => (∃ v : Int, e = .returned (.tuple #[.int .u64 v, .int .i64 0])) ∧ PM w' S p n 1 (fun _ => Go.Proofs.Ytndlkkacnpjlmaa.z0) ∧ Fr S w1 w' := by
    have := pread_ok P1 (E - 1) 1 (by have := HE.out; omega) (chkP_in (by unfold Size; omega) (by have := HE.out; omega) (by have := HE.out; omega)) (by omega)
    rw [show ((E - 1 : Nat) : Int) = (E : Int) - 1 by have := HE.out; omega, show ((1 : Nat) : Int) = 1 from rfl] at this
    exact this.mono fun e w' h => ⟨⟨_, h.1⟩, h.2⟩
  clear P1 K1 H1
  go_wp2_with fail
  with_reducible refine k2.mono ?_
  rintro e w2 ⟨⟨v, rfl⟩, P2, F2⟩
  clear k2
  have HK2 : Hid (Kp w w2) := F2.kp HK.out.1 HK.out.2
  have k3 : Calls Try.prog 11 #[.pointer (some ⟨p, 0, none⟩), .int .u64 (E : Int), .int .i64 1] w2 fun e w' => e = .returned (.tuple #[.int .u64 0, .int .i64 2]) ∧ w' = w2 := pread_no P2 E 1 2 (by have := HE.out; omega) (chkP_far (s := 1) (by unfold Size; omega) (by have := HE.out; omega) (by have := HE.out; omega)) (by decide)
  have k4 : Calls Try.prog 11 #[.pointer (some ⟨p, 0, none⟩), .int .u64 ((E : Int) + o8), .int .i64 1] w2 fun e w' => e = .returned (.tuple #[.int .u64 0, .int .i64 2]) ∧ w' = w2 := by rw [show (E : Int) + o8 = ((E + o8 : Nat) : Int) from (by omega)]; exact pread_no P2 (E + o8) 1 2 (by have := O8.out; omega) (chkP_far (s := 1) (by unfold Size; omega) (by have := O8.out; have := HE.out; omega) (by have := O8.out; have := HE.out; omega)) (by decide)
  have k5 : Calls Try.prog 9 #[.pointer (some ⟨p, 0, none⟩), .int .u64 ((E : Int) + o8), .int .i64 1, .int .u64 1] w2 fun e w' => e = .returned (.int .i64 2) ∧ w' = w2 := by rw [show (E : Int) + o8 = ((E + o8 : Nat) : Int) from (by omega)]; exact pwrite_no P2 (E + o8) 1 2 1 (by have := O8.out; omega) (chkP_far (s := 1) (by unfold Size; omega) (by have := O8.out; have := HE.out; omega) (by have := O8.out; have := HE.out; omega)) (by decide)
  have k6 := pget_no P2 n (by cases e : hasF n n; rfl; have := (hasF_iff n n).1 e; omega)
  have HP : Aside (PM w2 S p n 1 (fun _ => Go.Proofs.Ytndlkkacnpjlmaa.z0)) := P2
  clear P2 F2 HK
  go_wp2_with (first | (go_at_call 11; with_reducible refine k3.mono ?_; rintro e w' ⟨rfl, rfl⟩) | (go_at_call 11; with_reducible refine k4.mono ?_; rintro e w' ⟨rfl, rfl⟩) | (go_at_call 9; with_reducible refine k5.mono ?_; rintro e w' ⟨rfl, rfl⟩) | (go_at_call 18; with_reducible refine k6.mono ?_; rintro e w' ⟨rfl, rfl⟩))
  with_reducible refine (ptold_any _).mono ?_
  rintro e w3 ⟨rfl, K3⟩
  clear k3 k4 k5 k6
  have P3 := HP.out.kp K3
  have k7 := pops_any P3
  rw [show ((1 : Nat) : Int) = 1 from rfl] at k7
  have k8 := pclear_any P3 n (wf_nat HE.out.2.2)
  rw [show clearF n (fun _ => Go.Proofs.Ytndlkkacnpjlmaa.z0) n = false from by unfold clearF; rw [show hasF n n = false from by cases e : hasF n n; rfl; have := (hasF_iff n n).1 e; omega]; rfl] at k8
  have k9 := pclear_any P3 (-1) (by decide)
  rw [show clearF n (fun _ => Go.Proofs.Ytndlkkacnpjlmaa.z0) (-1) = false from by unfold clearF; rw [show hasF n (-1) = false from by cases e : hasF n (-1); rfl; have := (hasF_iff n (-1)).1 e; omega]; rfl] at k9
  have HK3 : Hid (Kp w w3) := HK2.out.trans K3
  clear P3 K3 HP HK2
  go_wp2_with (first | (go_at_call 24; with_reducible refine k7.mono ?_; rintro e w' ⟨rfl, rfl⟩) | (go_at_call 20; with_reducible refine k8.mono ?_; rintro e w' ⟨rfl, rfl⟩) | (go_at_call 20; with_reducible refine k9.mono ?_; rintro e w' ⟨rfl, rfl⟩))
  go_ret
  exact ⟨rfl, HK3.out⟩

set_option maxHeartbeats 4000000 in
set_option maxRecDepth 100000 in
theorem ends_1_1 (frames k : Int) (over m n E o8 : Nat) (w : World) (hm : bits .and .i64 frames 1048575 = (m : Int)) (z0 : 1 + (m : Int) = (n : Int)) (hn : 1 ≤ n ∧ n ≤ 1048576) (hk : bits .and .i64 k 3 = 0) (hE : E = n * 4096) (hd : bits .andNot .u64 (over : Int) 7 = (o8 : Int)) (hd2 : bits .andNot .u64 (o8 : Int) 7 = (o8 : Int)) (h8 : o8 % 8 = 0) (ho : o8 < 18446744073709551616) (hf : ¬ (o8 : Int) < E) :
    Calls Try.prog 5 #[.int .i64 frames, .int .u64 (over : Int), .int .i64 k] w fun e w' => e = .returned (.bool true) ∧ Kp w w' := by
  have k1 := new_ok n w hn.1 hn.2
  have z1 : (n : Int) ≤ 1048576 := by omega
  have O8 : Hid (o8 % 8 = 0 ∧ o8 < 18446744073709551616 ∧ E ≤ o8) := ⟨h8, ho, by omega⟩
  have HE : Hid (E = n * 4096 ∧ 1 ≤ n ∧ n ≤ 1048576) := ⟨hE, hn⟩
  have z3 : (n : Int) * 4096 = (E : Int) := by omega
  have z4 : (4096 : Int) ≤ E := by omega
  have z5 : (E : Int) ≤ 4294967296 := by omega
  have z6 : (1 : Int) ≤ n := by omega
  clear ho h8 hE hn
  go_enter Try.func5, Try.ntmps5
  go_wp2_with fail
  with_reducible refine k1.mono ?_
  rintro e w1 ⟨p, S, rfl, P1, K1, H1⟩
  clear k1
  have HK : Hid (Kp w w1 ∧ ∀ k, S k → w.heap.size ≤ k) := ⟨K1, H1⟩
  have k2 : Calls Try.prog 11 #[.pointer (some ⟨p, 0, none⟩), .int .u64 ((E : Int) - 1), .int .i64 1] w1 fun e w' => (∃ v : Int, e = .returned (.tuple #[.int .u64 v, .int .i64 0])) ∧ PM w' S p n 1 (fun _ => Go.Proofs.Ytndlkkacnpjlmaa.z0) ∧ Fr S w1 w' := by
    have := pread_ok P1 (E - 1) 1 (by have := HE.out; omega) (chkP_in (by unfold Size; omega) (by have := HE.out; omega) (by have := HE.out; omega)) (by omega)
    rw [show ((E - 1 : Nat) : Int) = (E : Int) - 1 by have := HE.out; omega, show ((1 : Nat) : Int) = 1 from rfl] at this
    exact this.mono fun e w' h => ⟨⟨_, h.1⟩, h.2⟩
  clear P1 K1 H1
  go_wp2_with fail
  with_reducible refine k2.mono ?_
  rintro e w2 ⟨⟨v, rfl⟩, P2, F2⟩
  clear k2
  have HK2 : Hid (Kp w w2) := F2.kp HK.out.1 HK.out.2
  have k3 : Calls Try.prog 11 #[.pointer (some ⟨p, 0, none⟩), .int .u64 (E : Int), .int .i64 1] w2 fun e w' => e = .returned (.tuple #[.int .u64 0, .int .i64 2]) ∧ w' = w2 := pread_no P2 E 1 2 (by have := HE.out; omega) (chkP_far (s := 1) (by unfold Size; omega) (by have := HE.out; omega) (by have := HE.out; omega)) (by decide)
  have k4 : Calls Try.prog 11 #[.pointer (some ⟨p, 0, none⟩), .int .u64 (o8 : Int), .int .i64 1] w2 fun e w' => e = .returned (.tuple #[.int .u64 0, .int .i64 2]) ∧ w' = w2 := by exact pread_no P2 o8 1 2 (by have := O8.out; omega) (chkP_far (s := 1) (by unfold Size; omega) (by have := O8.out; have := HE.out; omega) (by have := O8.out; have := HE.out; omega)) (by decide)
  have k5 : Calls Try.prog 9 #[.pointer (some ⟨p, 0, none⟩), .int .u64 (o8 : Int), .int .i64 1, .int .u64 1] w2 fun e w' => e = .returned (.int .i64 2) ∧ w' = w2 := by exact pwrite_no P2 o8 1 2 1 (by have := O8.out; omega) (chkP_far (s := 1) (by unfold Size; omega) (by have := O8.out; have := HE.out; omega) (by have := O8.out; have := HE.out; omega)) (by decide)
  have k6 := pget_no P2 n (by cases e : hasF n n; rfl; have := (hasF_iff n n).1 e; omega)
  have HP : Aside (PM w2 S p n 1 (fun _ => Go.Proofs.Ytndlkkacnpjlmaa.z0)) := P2
  clear P2 F2 HK
  go_wp2_with (first | (go_at_call 11; with_reducible refine k3.mono ?_; rintro e w' ⟨rfl, rfl⟩) | (go_at_call 11; with_reducible refine k4.mono ?_; rintro e w' ⟨rfl, rfl⟩) | (go_at_call 9; with_reducible refine k5.mono ?_; rintro e w' ⟨rfl, rfl⟩) | (go_at_call 18; with_reducible refine k6.mono ?_; rintro e w' ⟨rfl, rfl⟩))
  with_reducible refine (ptold_any _).mono ?_
  rintro e w3 ⟨rfl, K3⟩
  clear k3 k4 k5 k6
  have P3 := HP.out.kp K3
  have k7 := pops_any P3
  rw [show ((1 : Nat) : Int) = 1 from rfl] at k7
  have k8 := pclear_any P3 n (wf_nat HE.out.2.2)
  rw [show clearF n (fun _ => Go.Proofs.Ytndlkkacnpjlmaa.z0) n = false from by unfold clearF; rw [show hasF n n = false from by cases e : hasF n n; rfl; have := (hasF_iff n n).1 e; omega]; rfl] at k8
  have k9 := pclear_any P3 (-1) (by decide)
  rw [show clearF n (fun _ => Go.Proofs.Ytndlkkacnpjlmaa.z0) (-1) = false from by unfold clearF; rw [show hasF n (-1) = false from by cases e : hasF n (-1); rfl; have := (hasF_iff n (-1)).1 e; omega]; rfl] at k9
  have HK3 : Hid (Kp w w3) := HK2.out.trans K3
  clear P3 K3 HP HK2
  go_wp2_with (first | (go_at_call 24; with_reducible refine k7.mono ?_; rintro e w' ⟨rfl, rfl⟩) | (go_at_call 20; with_reducible refine k8.mono ?_; rintro e w' ⟨rfl, rfl⟩) | (go_at_call 20; with_reducible refine k9.mono ?_; rintro e w' ⟨rfl, rfl⟩))
  go_ret
  exact ⟨rfl, HK3.out⟩

set_option maxHeartbeats 4000000 in
set_option maxRecDepth 100000 in
theorem ends_2_0 (frames k : Int) (over m n E o8 : Nat) (w : World) (hm : bits .and .i64 frames 1048575 = (m : Int)) (z0 : 1 + (m : Int) = (n : Int)) (hn : 1 ≤ n ∧ n ≤ 1048576) (hk : bits .and .i64 k 3 = 1) (hE : E = n * 4096) (hd : bits .andNot .u64 (over : Int) 7 = (o8 : Int)) (hd2 : bits .andNot .u64 (o8 : Int) 7 = (o8 : Int)) (h8 : o8 % 8 = 0) (ho : o8 < 18446744073709551616) (hf : (o8 : Int) < E) :
    Calls Try.prog 5 #[.int .i64 frames, .int .u64 (over : Int), .int .i64 k] w fun e w' => e = .returned (.bool true) ∧ Kp w w' := by
  have k1 := new_ok n w hn.1 hn.2
  have z1 : (n : Int) ≤ 1048576 := by omega
  have O8 : Hid (o8 % 8 = 0 ∧ o8 < 18446744073709551616 ∧ o8 < E) := ⟨h8, ho, by omega⟩
  have HE : Hid (E = n * 4096 ∧ 1 ≤ n ∧ n ≤ 1048576) := ⟨hE, hn⟩
  have z3 : (n : Int) * 4096 = (E : Int) := by omega
  have z4 : (4096 : Int) ≤ E := by omega
  have z5 : (E : Int) ≤ 4294967296 := by omega
  have z6 : (1 : Int) ≤ n := by omega
  clear ho h8 hE hn
  go_enter Try.func5, Try.ntmps5
  go_wp2_with fail
  with_reducible refine k1.mono ?_
  rintro e w1 ⟨p, S, rfl, P1, K1, H1⟩
  clear k1
  have HK : Hid (Kp w w1 ∧ ∀ k, S k → w.heap.size ≤ k) := ⟨K1, H1⟩
  have k2 : Calls Try.prog 11 #[.pointer (some ⟨p, 0, none⟩), .int .u64 ((E : Int) - 2), .int .i64 2] w1 fun e w' => (∃ v : Int, e = .returned (.tuple #[.int .u64 v, .int .i64 0])) ∧ PM w' S p n 1 (fun _ => Go.Proofs.Ytndlkkacnpjlmaa.z0) ∧ Fr S w1 w' := by
    have := pread_ok P1 (E - 2) 2 (by have := HE.out; omega) (chkP_in (by unfold Size; omega) (by have := HE.out; omega) (by have := HE.out; omega)) (by omega)
    rw [show ((E - 2 : Nat) : Int) = (E : Int) - 2 by have := HE.out; omega, show ((2 : Nat) : Int) = 2 from rfl] at this
    exact this.mono fun e w' h => ⟨⟨_, h.1⟩, h.2⟩
  clear P1 K1 H1
  go_wp2_with fail
  with_reducible refine k2.mono ?_
  rintro e w2 ⟨⟨v, rfl⟩, P2, F2⟩
  clear k2
  have HK2 : Hid (Kp w w2) := F2.kp HK.out.1 HK.out.2
  have k3 : Calls Try.prog 11 #[.pointer (some ⟨p, 0, none⟩), .int .u64 (E : Int), .int .i64 2] w2 fun e w' => e = .returned (.tuple #[.int .u64 0, .int .i64 2]) ∧ w' = w2 := pread_no P2 E 2 2 (by have := HE.out; omega) (chkP_far (s := 2) (by unfold Size; omega) (by have := HE.out; omega) (by have := HE.out; omega)) (by decide)
  have k4 : Calls Try.prog 11 #[.pointer (some ⟨p, 0, none⟩), .int .u64 ((E : Int) + o8), .int .i64 2] w2 fun e w' => e = .returned (.tuple #[.int .u64 0, .int .i64 2]) ∧ w' = w2 := by rw [show (E : Int) + o8 = ((E + o8 : Nat) : Int) from (by omega)]; exact pread_no P2 (E + o8) 2 2 (by have := O8.out; omega) (chkP_far (s := 2) (by unfold Size; omega) (by have := O8.out; have := HE.out; omega) (by have := O8.out; have := HE.out; omega)) (by decide)
  have k5 : Calls Try.prog 9 #[.pointer (some ⟨p, 0, none⟩), .int .u64 ((E : Int) + o8), .int .i64 2, .int .u64 1] w2 fun e w' => e = .returned (.int .i64 2) ∧ w' = w2 := by rw [show (E : Int) + o8 = ((E + o8 : Nat) : Int) from (by omega)]; exact pwrite_no P2 (E + o8) 2 2 1 (by have := O8.out; omega) (chkP_far (s := 2) (by unfold Size; omega) (by have := O8.out; have := HE.out; omega) (by have := O8.out; have := HE.out; omega)) (by decide)
  have k6 := pget_no P2 n (by cases e : hasF n n; rfl; have := (hasF_iff n n).1 e; omega)
  have HP : Aside (PM w2 S p n 1 (fun _ => Go.Proofs.Ytndlkkacnpjlmaa.z0)) := P2
  clear P2 F2 HK
  go_wp2_with (first | (go_at_call 11; with_reducible refine k3.mono ?_; rintro e w' ⟨rfl, rfl⟩) | (go_at_call 11; with_reducible refine k4.mono ?_; rintro e w' ⟨rfl, rfl⟩) | (go_at_call 9; with_reducible refine k5.mono ?_; rintro e w' ⟨rfl, rfl⟩) | (go_at_call 18; with_reducible refine k6.mono ?_; rintro e w' ⟨rfl, rfl⟩))
  with_reducible refine (ptold_any _).mono ?_
  rintro e w3 ⟨rfl, K3⟩
  clear k3 k4 k5 k6
  have P3 := HP.out.kp K3
  have k7 := pops_any P3
  rw [show ((1 : Nat) : Int) = 1 from rfl] at k7
  have k8 := pclear_any P3 n (wf_nat HE.out.2.2)
  rw [show clearF n (fun _ => Go.Proofs.Ytndlkkacnpjlmaa.z0) n = false from by unfold clearF; rw [show hasF n n = false from by cases e : hasF n n; rfl; have := (hasF_iff n n).1 e; omega]; rfl] at k8
  have k9 := pclear_any P3 (-1) (by decide)
  rw [show clearF n (fun _ => Go.Proofs.Ytndlkkacnpjlmaa.z0) (-1) = false from by unfold clearF; rw [show hasF n (-1) = false from by cases e : hasF n (-1); rfl; have := (hasF_iff n (-1)).1 e; omega]; rfl] at k9
  have HK3 : Hid (Kp w w3) := HK2.out.trans K3
  clear P3 K3 HP HK2
  go_wp2_with (first | (go_at_call 24; with_reducible refine k7.mono ?_; rintro e w' ⟨rfl, rfl⟩) | (go_at_call 20; with_reducible refine k8.mono ?_; rintro e w' ⟨rfl, rfl⟩) | (go_at_call 20; with_reducible refine k9.mono ?_; rintro e w' ⟨rfl, rfl⟩))
  go_ret
  exact ⟨rfl, HK3.out⟩

set_option maxHeartbeats 4000000 in
set_option maxRecDepth 100000 in
theorem ends_2_1 (frames k : Int) (over m n E o8 : Nat) (w : World) (hm : bits .and .i64 frames 1048575 = (m : Int)) (z0 : 1 + (m : Int) = (n : Int)) (hn : 1 ≤ n ∧ n ≤ 1048576) (hk : bits .and .i64 k 3 = 1) (hE : E = n * 4096) (hd : bits .andNot .u64 (over : Int) 7 = (o8 : Int)) (hd2 : bits .andNot .u64 (o8 : Int) 7 = (o8 : Int)) (h8 : o8 % 8 = 0) (ho : o8 < 18446744073709551616) (hf : ¬ (o8 : Int) < E) :
    Calls Try.prog 5 #[.int .i64 frames, .int .u64 (over : Int), .int .i64 k] w fun e w' => e = .returned (.bool true) ∧ Kp w w' := by
  have k1 := new_ok n w hn.1 hn.2
  have z1 : (n : Int) ≤ 1048576 := by omega
  have O8 : Hid (o8 % 8 = 0 ∧ o8 < 18446744073709551616 ∧ E ≤ o8) := ⟨h8, ho, by omega⟩
  have HE : Hid (E = n * 4096 ∧ 1 ≤ n ∧ n ≤ 1048576) := ⟨hE, hn⟩
  have z3 : (n : Int) * 4096 = (E : Int) := by omega
  have z4 : (4096 : Int) ≤ E := by omega
  have z5 : (E : Int) ≤ 4294967296 := by omega
  have z6 : (1 : Int) ≤ n := by omega
  clear ho h8 hE hn
  go_enter Try.func5, Try.ntmps5
  go_wp2_with fail
  with_reducible refine k1.mono ?_
  rintro e w1 ⟨p, S, rfl, P1, K1, H1⟩
  clear k1
  have HK : Hid (Kp w w1 ∧ ∀ k, S k → w.heap.size ≤ k) := ⟨K1, H1⟩
  have k2 : Calls Try.prog 11 #[.pointer (some ⟨p, 0, none⟩), .int .u64 ((E : Int) - 2), .int .i64 2] w1 fun e w' => (∃ v : Int, e = .returned (.tuple #[.int .u64 v, .int .i64 0])) ∧ PM w' S p n 1 (fun _ => Go.Proofs.Ytndlkkacnpjlmaa.z0) ∧ Fr S w1 w' := by
    have := pread_ok P1 (E - 2) 2 (by have := HE.out; omega) (chkP_in (by unfold Size; omega) (by have := HE.out; omega) (by have := HE.out; omega)) (by omega)
    rw [show ((E - 2 : Nat) : Int) = (E : Int) - 2 by have := HE.out; omega, show ((2 : Nat) : Int) = 2 from rfl] at this
    exact this.mono fun e w' h => ⟨⟨_, h.1⟩, h.2⟩
  clear P1 K1 H1
  go_wp2_with fail
  with_reducible refine k2.mono ?_
  rintro e w2 ⟨⟨v, rfl⟩, P2, F2⟩
  clear k2
  have HK2 : Hid (Kp w w2) := F2.kp HK.out.1 HK.out.2
  have k3 : Calls Try.prog 11 #[.pointer (some ⟨p, 0, none⟩), .int .u64 (E : Int), .int .i64 2] w2 fun e w' => e = .returned (.tuple #[.int .u64 0, .int .i64 2]) ∧ w' = w2 := pread_no P2 E 2 2 (by have := HE.out; omega) (chkP_far (s := 2) (by unfold Size; omega) (by have := HE.out; omega) (by have := HE.out; omega)) (by decide)
  have k4 : Calls Try.prog 11 #[.pointer (some ⟨p, 0, none⟩), .int .u64 (o8 : Int), .int .i64 2] w2 fun e w' => e = .returned (.tuple #[.int .u64 0, .int .i64 2]) ∧ w' = w2 := by exact pread_no P2 o8 2 2 (by have := O8.out; omega) (chkP_far (s := 2) (by unfold Size; omega) (by have := O8.out; have := HE.out; omega) (by have := O8.out; have := HE.out; omega)) (by decide)
  have k5 : Calls Try.prog 9 #[.pointer (some ⟨p, 0, none⟩), .int .u64 (o8 : Int), .int .i64 2, .int .u64 1] w2 fun e w' => e = .returned (.int .i64 2) ∧ w' = w2 := by exact pwrite_no P2 o8 2 2 1 (by have := O8.out; omega) (chkP_far (s := 2) (by unfold Size; omega) (by have := O8.out; have := HE.out; omega) (by have := O8.out; have := HE.out; omega)) (by decide)
  have k6 := pget_no P2 n (by cases e : hasF n n; rfl; have := (hasF_iff n n).1 e; omega)
  have HP : Aside (PM w2 S p n 1 (fun _ => Go.Proofs.Ytndlkkacnpjlmaa.z0)) := P2
  clear P2 F2 HK
  go_wp2_with (first | (go_at_call 11; with_reducible refine k3.mono ?_; rintro e w' ⟨rfl, rfl⟩) | (go_at_call 11; with_reducible refine k4.mono ?_; rintro e w' ⟨rfl, rfl⟩) | (go_at_call 9; with_reducible refine k5.mono ?_; rintro e w' ⟨rfl, rfl⟩) | (go_at_call 18; with_reducible refine k6.mono ?_; rintro e w' ⟨rfl, rfl⟩))
  with_reducible refine (ptold_any _).mono ?_
  rintro e w3 ⟨rfl, K3⟩
  clear k3 k4 k5 k6
  have P3 := HP.out.kp K3
  have k7 := pops_any P3
  rw [show ((1 : Nat) : Int) = 1 from rfl] at k7
  have k8 := pclear_any P3 n (wf_nat HE.out.2.2)
  rw [show clearF n (fun _ => Go.Proofs.Ytndlkkacnpjlmaa.z0) n = false from by unfold clearF; rw [show hasF n n = false from by cases e : hasF n n; rfl; have := (hasF_iff n n).1 e; omega]; rfl] at k8
  have k9 := pclear_any P3 (-1) (by decide)
  rw [show clearF n (fun _ => Go.Proofs.Ytndlkkacnpjlmaa.z0) (-1) = false from by unfold clearF; rw [show hasF n (-1) = false from by cases e : hasF n (-1); rfl; have := (hasF_iff n (-1)).1 e; omega]; rfl] at k9
  have HK3 : Hid (Kp w w3) := HK2.out.trans K3
  clear P3 K3 HP HK2
  go_wp2_with (first | (go_at_call 24; with_reducible refine k7.mono ?_; rintro e w' ⟨rfl, rfl⟩) | (go_at_call 20; with_reducible refine k8.mono ?_; rintro e w' ⟨rfl, rfl⟩) | (go_at_call 20; with_reducible refine k9.mono ?_; rintro e w' ⟨rfl, rfl⟩))
  go_ret
  exact ⟨rfl, HK3.out⟩

set_option maxHeartbeats 4000000 in
set_option maxRecDepth 100000 in
theorem ends_4_0 (frames k : Int) (over m n E o8 : Nat) (w : World) (hm : bits .and .i64 frames 1048575 = (m : Int)) (z0 : 1 + (m : Int) = (n : Int)) (hn : 1 ≤ n ∧ n ≤ 1048576) (hk : bits .and .i64 k 3 = 2) (hE : E = n * 4096) (hd : bits .andNot .u64 (over : Int) 7 = (o8 : Int)) (hd2 : bits .andNot .u64 (o8 : Int) 7 = (o8 : Int)) (h8 : o8 % 8 = 0) (ho : o8 < 18446744073709551616) (hf : (o8 : Int) < E) :
    Calls Try.prog 5 #[.int .i64 frames, .int .u64 (over : Int), .int .i64 k] w fun e w' => e = .returned (.bool true) ∧ Kp w w' := by
  have k1 := new_ok n w hn.1 hn.2
  have z1 : (n : Int) ≤ 1048576 := by omega
  have O8 : Hid (o8 % 8 = 0 ∧ o8 < 18446744073709551616 ∧ o8 < E) := ⟨h8, ho, by omega⟩
  have HE : Hid (E = n * 4096 ∧ 1 ≤ n ∧ n ≤ 1048576) := ⟨hE, hn⟩
  have z3 : (n : Int) * 4096 = (E : Int) := by omega
  have z4 : (4096 : Int) ≤ E := by omega
  have z5 : (E : Int) ≤ 4294967296 := by omega
  have z6 : (1 : Int) ≤ n := by omega
  clear ho h8 hE hn
  go_enter Try.func5, Try.ntmps5
  go_wp2_with fail
  with_reducible refine k1.mono ?_
  rintro e w1 ⟨p, S, rfl, P1, K1, H1⟩
  clear k1
  have HK : Hid (Kp w w1 ∧ ∀ k, S k → w.heap.size ≤ k) := ⟨K1, H1⟩
  have k2 : Calls Try.prog 11 #[.pointer (some ⟨p, 0, none⟩), .int .u64 ((E : Int) - 4), .int .i64 4] w1 fun e w' => (∃ v : Int, e = .returned (.tuple #[.int .u64 v, .int .i64 0])) ∧ PM w' S p n 1 (fun _ => Go.Proofs.Ytndlkkacnpjlmaa.z0) ∧ Fr S w1 w' := by
    have := pread_ok P1 (E - 4) 4 (by have := HE.out; omega) (chkP_in (by unfold Size; omega) (by have := HE.out; omega) (by have := HE.out; omega)) (by omega)
    rw [show ((E - 4 : Nat) : Int) = (E : Int) - 4 by have := HE.out; omega, show ((4 : Nat) : Int) = 4 from rfl] at this
    exact this.mono fun e w' h => ⟨⟨_, h.1⟩, h.2⟩
  clear P1 K1 H1
  go_wp2_with fail
  with_reducible refine k2.mono ?_
  rintro e w2 ⟨⟨v, rfl⟩, P2, F2⟩
  clear k2
  have HK2 : Hid (Kp w w2) := F2.kp HK.out.1 HK.out.2
  have k3 : Calls Try.prog 11 #[.pointer (some ⟨p, 0, none⟩), .int .u64 (E : Int), .int .i64 4] w2 fun e w' => e = .returned (.tuple #[.int .u64 0, .int .i64 2]) ∧ w' = w2 := pread_no P2 E 4 2 (by have := HE.out; omega) (chkP_far (s := 4) (by unfold Size; omega) (by have := HE.out; omega) (by have := HE.out; omega)) (by decide)
  have k4 : Calls Try.prog 11 #[.pointer (some ⟨p, 0, none⟩), .int .u64 ((E : Int) + o8), .int .i64 4] w2 fun e w' => e = .returned (.tuple #[.int .u64 0, .int .i64 2]) ∧ w' = w2 := by rw [show (E : Int) + o8 = ((E + o8 : Nat) : Int) from (by omega)]; exact pread_no P2 (E + o8) 4 2 (by have := O8.out; omega) (chkP_far (s := 4) (by unfold Size; omega) (by have := O8.out; have := HE.out; omega) (by have := O8.out; have := HE.out; omega)) (by decide)
  have k5 : Calls Try.prog 9 #[.pointer (some ⟨p, 0, none⟩), .int .u64 ((E : Int) + o8), .int .i64 4, .int .u64 1] w2 fun e w' => e = .returned (.int .i64 2) ∧ w' = w2 := by rw [show (E : Int) + o8 = ((E + o8 : Nat) : Int) from (by omega)]; exact pwrite_no P2 (E + o8) 4 2 1 (by have := O8.out; omega) (chkP_far (s := 4) (by unfold Size; omega) (by have := O8.out; have := HE.out; omega) (by have := O8.out; have := HE.out; omega)) (by decide)
  have k6 := pget_no P2 n (by cases e : hasF n n; rfl; have := (hasF_iff n n).1 e; omega)
  have HP : Aside (PM w2 S p n 1 (fun _ => Go.Proofs.Ytndlkkacnpjlmaa.z0)) := P2
  clear P2 F2 HK
  go_wp2_with (first | (go_at_call 11; with_reducible refine k3.mono ?_; rintro e w' ⟨rfl, rfl⟩) | (go_at_call 11; with_reducible refine k4.mono ?_; rintro e w' ⟨rfl, rfl⟩) | (go_at_call 9; with_reducible refine k5.mono ?_; rintro e w' ⟨rfl, rfl⟩) | (go_at_call 18; with_reducible refine k6.mono ?_; rintro e w' ⟨rfl, rfl⟩))
  with_reducible refine (ptold_any _).mono ?_
  rintro e w3 ⟨rfl, K3⟩
  clear k3 k4 k5 k6
  have P3 := HP.out.kp K3
  have k7 := pops_any P3
  rw [show ((1 : Nat) : Int) = 1 from rfl] at k7
  have k8 := pclear_any P3 n (wf_nat HE.out.2.2)
  rw [show clearF n (fun _ => Go.Proofs.Ytndlkkacnpjlmaa.z0) n = false from by unfold clearF; rw [show hasF n n = false from by cases e : hasF n n; rfl; have := (hasF_iff n n).1 e; omega]; rfl] at k8
  have k9 := pclear_any P3 (-1) (by decide)
  rw [show clearF n (fun _ => Go.Proofs.Ytndlkkacnpjlmaa.z0) (-1) = false from by unfold clearF; rw [show hasF n (-1) = false from by cases e : hasF n (-1); rfl; have := (hasF_iff n (-1)).1 e; omega]; rfl] at k9
  have HK3 : Hid (Kp w w3) := HK2.out.trans K3
  clear P3 K3 HP HK2
  go_wp2_with (first | (go_at_call 24; with_reducible refine k7.mono ?_; rintro e w' ⟨rfl, rfl⟩) | (go_at_call 20; with_reducible refine k8.mono ?_; rintro e w' ⟨rfl, rfl⟩) | (go_at_call 20; with_reducible refine k9.mono ?_; rintro e w' ⟨rfl, rfl⟩))
  go_ret
  exact ⟨rfl, HK3.out⟩

set_option maxHeartbeats 4000000 in
set_option maxRecDepth 100000 in
theorem ends_4_1 (frames k : Int) (over m n E o8 : Nat) (w : World) (hm : bits .and .i64 frames 1048575 = (m : Int)) (z0 : 1 + (m : Int) = (n : Int)) (hn : 1 ≤ n ∧ n ≤ 1048576) (hk : bits .and .i64 k 3 = 2) (hE : E = n * 4096) (hd : bits .andNot .u64 (over : Int) 7 = (o8 : Int)) (hd2 : bits .andNot .u64 (o8 : Int) 7 = (o8 : Int)) (h8 : o8 % 8 = 0) (ho : o8 < 18446744073709551616) (hf : ¬ (o8 : Int) < E) :
    Calls Try.prog 5 #[.int .i64 frames, .int .u64 (over : Int), .int .i64 k] w fun e w' => e = .returned (.bool true) ∧ Kp w w' := by
  have k1 := new_ok n w hn.1 hn.2
  have z1 : (n : Int) ≤ 1048576 := by omega
  have O8 : Hid (o8 % 8 = 0 ∧ o8 < 18446744073709551616 ∧ E ≤ o8) := ⟨h8, ho, by omega⟩
  have HE : Hid (E = n * 4096 ∧ 1 ≤ n ∧ n ≤ 1048576) := ⟨hE, hn⟩
  have z3 : (n : Int) * 4096 = (E : Int) := by omega
  have z4 : (4096 : Int) ≤ E := by omega
  have z5 : (E : Int) ≤ 4294967296 := by omega
  have z6 : (1 : Int) ≤ n := by omega
  clear ho h8 hE hn
  go_enter Try.func5, Try.ntmps5
  go_wp2_with fail
  with_reducible refine k1.mono ?_
  rintro e w1 ⟨p, S, rfl, P1, K1, H1⟩
  clear k1
  have HK : Hid (Kp w w1 ∧ ∀ k, S k → w.heap.size ≤ k) := ⟨K1, H1⟩
  have k2 : Calls Try.prog 11 #[.pointer (some ⟨p, 0, none⟩), .int .u64 ((E : Int) - 4), .int .i64 4] w1 fun e w' => (∃ v : Int, e = .returned (.tuple #[.int .u64 v, .int .i64 0])) ∧ PM w' S p n 1 (fun _ => Go.Proofs.Ytndlkkacnpjlmaa.z0) ∧ Fr S w1 w' := by
    have := pread_ok P1 (E - 4) 4 (by have := HE.out; omega) (chkP_in (by unfold Size; omega) (by have := HE.out; omega) (by have := HE.out; omega)) (by omega)
    rw [show ((E - 4 : Nat) : Int) = (E : Int) - 4 by have := HE.out; omega, show ((4 : Nat) : Int) = 4 from rfl] at this
    exact this.mono fun e w' h => ⟨⟨_, h.1⟩, h.2⟩
  clear P1 K1 H1
  go_wp2_with fail
  with_reducible refine k2.mono ?_
  rintro e w2 ⟨⟨v, rfl⟩, P2, F2⟩
  clear k2
  have HK2 : Hid (Kp w w2) := F2.kp HK.out.1 HK.out.2
  have k3 : Calls Try.prog 11 #[.pointer (some ⟨p, 0, none⟩), .int .u64 (E : Int), .int .i64 4] w2 fun e w' => e = .returned (.tuple #[.int .u64 0, .int .i64 2]) ∧ w' = w2 := pread_no P2 E 4 2 (by have := HE.out; omega) (chkP_far (s := 4) (by unfold Size; omega) (by have := HE.out; omega) (by have := HE.out; omega)) (by decide)
  have k4 : Calls Try.prog 11 #[.pointer (some ⟨p, 0, none⟩), .int .u64 (o8 : Int), .int .i64 4] w2 fun e w' => e = .returned (.tuple #[.int .u64 0, .int .i64 2]) ∧ w' = w2 := by exact pread_no P2 o8 4 2 (by have := O8.out; omega) (chkP_far (s := 4) (by unfold Size; omega) (by have := O8.out; have := HE.out; omega) (by have := O8.out; have := HE.out; omega)) (by decide)
  have k5 : Calls Try.prog 9 #[.pointer (some ⟨p, 0, none⟩), .int .u64 (o8 : Int), .int .i64 4, .int .u64 1] w2 fun e w' => e = .returned (.int .i64 2) ∧ w' = w2 := by exact pwrite_no P2 o8 4 2 1 (by have := O8.out; omega) (chkP_far (s := 4) (by unfold Size; omega) (by have := O8.out; have := HE.out; omega) (by have := O8.out; have := HE.out; omega)) (by decide)
  have k6 := pget_no P2 n (by cases e : hasF n n; rfl; have := (hasF_iff n n).1 e; omega)
  have HP : Aside (PM w2 S p n 1 (fun _ => Go.Proofs.Ytndlkkacnpjlmaa.z0)) := P2
  clear P2 F2 HK
  go_wp2_with (first | (go_at_call 11; with_reducible refine k3.mono ?_; rintro e w' ⟨rfl, rfl⟩) | (go_at_call 11; with_reducible refine k4.mono ?_; rintro e w' ⟨rfl, rfl⟩) | (go_at_call 9; with_reducible refine k5.mono ?_; rintro e w' ⟨rfl, rfl⟩) | (go_at_call 18; with_reducible refine k6.mono ?_; rintro e w' ⟨rfl, rfl⟩))
  with_reducible refine (ptold_any _).mono ?_
  rintro e w3 ⟨rfl, K3⟩
  clear k3 k4 k5 k6
  have P3 := HP.out.kp K3
  have k7 := pops_any P3
  rw [show ((1 : Nat) : Int) = 1 from rfl] at k7
  have k8 := pclear_any P3 n (wf_nat HE.out.2.2)
  rw [show clearF n (fun _ => Go.Proofs.Ytndlkkacnpjlmaa.z0) n = false from by unfold clearF; rw [show hasF n n = false from by cases e : hasF n n; rfl; have := (hasF_iff n n).1 e; omega]; rfl] at k8
  have k9 := pclear_any P3 (-1) (by decide)
  rw [show clearF n (fun _ => Go.Proofs.Ytndlkkacnpjlmaa.z0) (-1) = false from by unfold clearF; rw [show hasF n (-1) = false from by cases e : hasF n (-1); rfl; have := (hasF_iff n (-1)).1 e; omega]; rfl] at k9
  have HK3 : Hid (Kp w w3) := HK2.out.trans K3
  clear P3 K3 HP HK2
  go_wp2_with (first | (go_at_call 24; with_reducible refine k7.mono ?_; rintro e w' ⟨rfl, rfl⟩) | (go_at_call 20; with_reducible refine k8.mono ?_; rintro e w' ⟨rfl, rfl⟩) | (go_at_call 20; with_reducible refine k9.mono ?_; rintro e w' ⟨rfl, rfl⟩))
  go_ret
  exact ⟨rfl, HK3.out⟩

set_option maxHeartbeats 4000000 in
set_option maxRecDepth 100000 in
theorem ends_8_0 (frames k : Int) (over m n E o8 : Nat) (w : World) (hm : bits .and .i64 frames 1048575 = (m : Int)) (z0 : 1 + (m : Int) = (n : Int)) (hn : 1 ≤ n ∧ n ≤ 1048576) (hk : bits .and .i64 k 3 = 3) (hE : E = n * 4096) (hd : bits .andNot .u64 (over : Int) 7 = (o8 : Int)) (hd2 : bits .andNot .u64 (o8 : Int) 7 = (o8 : Int)) (h8 : o8 % 8 = 0) (ho : o8 < 18446744073709551616) (hf : (o8 : Int) < E) :
    Calls Try.prog 5 #[.int .i64 frames, .int .u64 (over : Int), .int .i64 k] w fun e w' => e = .returned (.bool true) ∧ Kp w w' := by
  have k1 := new_ok n w hn.1 hn.2
  have z1 : (n : Int) ≤ 1048576 := by omega
  have O8 : Hid (o8 % 8 = 0 ∧ o8 < 18446744073709551616 ∧ o8 < E) := ⟨h8, ho, by omega⟩
  have HE : Hid (E = n * 4096 ∧ 1 ≤ n ∧ n ≤ 1048576) := ⟨hE, hn⟩
  have z3 : (n : Int) * 4096 = (E : Int) := by omega
  have z4 : (4096 : Int) ≤ E := by omega
  have z5 : (E : Int) ≤ 4294967296 := by omega
  have z6 : (1 : Int) ≤ n := by omega
  clear ho h8 hE hn
  go_enter Try.func5, Try.ntmps5
  go_wp2_with fail
  with_reducible refine k1.mono ?_
  rintro e w1 ⟨p, S, rfl, P1, K1, H1⟩
  clear k1
  have HK : Hid (Kp w w1 ∧ ∀ k, S k → w.heap.size ≤ k) := ⟨K1, H1⟩
  have k2 : Calls Try.prog 11 #[.pointer (some ⟨p, 0, none⟩), .int .u64 ((E : Int) - 8), .int .i64 8] w1 fun e w' => (∃ v : Int, e = .returned (.tuple #[.int .u64 v, .int .i64 0])) ∧ PM w' S p n 1 (fun _ => Go.Proofs.Ytndlkkacnpjlmaa.z0) ∧ Fr S w1 w' := by
    have := pread_ok P1 (E - 8) 8 (by have := HE.out; omega) (chkP_in (by unfold Size; omega) (by have := HE.out; omega) (by have := HE.out; omega)) (by omega)
    rw [show ((E - 8 : Nat) : Int) = (E : Int) - 8 by have := HE.out; omega, show ((8 : Nat) : Int) = 8 from rfl] at this
    exact this.mono fun e w' h => ⟨⟨_, h.1⟩, h.2⟩
  clear P1 K1 H1
  go_wp2_with fail
  with_reducible refine k2.mono ?_
  rintro e w2 ⟨⟨v, rfl⟩, P2, F2⟩
  clear k2
  have HK2 : Hid (Kp w w2) := F2.kp HK.out.1 HK.out.2
  have k3 : Calls Try.prog 11 #[.pointer (some ⟨p, 0, none⟩), .int .u64 (E : Int), .int .i64 8] w2 fun e w' => e = .returned (.tuple #[.int .u64 0, .int .i64 2]) ∧ w' = w2 := pread_no P2 E 8 2 (by have := HE.out; omega) (chkP_far (s := 8) (by unfold Size; omega) (by have := HE.out; omega) (by have := HE.out; omega)) (by decide)
  have k4 : Calls Try.prog 11 #[.pointer (some ⟨p, 0, none⟩), .int .u64 ((E : Int) + o8), .int .i64 8] w2 fun e w' => e = .returned (.tuple #[.int .u64 0, .int .i64 2]) ∧ w' = w2 := by rw [show (E : Int) + o8 = ((E + o8 : Nat) : Int) from (by omega)]; exact pread_no P2 (E + o8) 8 2 (by have := O8.out; omega) (chkP_far (s := 8) (by unfold Size; omega) (by have := O8.out; have := HE.out; omega) (by have := O8.out; have := HE.out; omega)) (by decide)
  have k5 : Calls Try.prog 9 #[.pointer (some ⟨p, 0, none⟩), .int .u64 ((E : Int) + o8), .int .i64 8, .int .u64 1] w2 fun e w' => e = .returned (.int .i64 2) ∧ w' = w2 := by rw [show (E : Int) + o8 = ((E + o8 : Nat) : Int) from (by omega)]; exact pwrite_no P2 (E + o8) 8 2 1 (by have := O8.out; omega) (chkP_far (s := 8) (by unfold Size; omega) (by have := O8.out; have := HE.out; omega) (by have := O8.out; have := HE.out; omega)) (by decide)
  have k6 := pget_no P2 n (by cases e : hasF n n; rfl; have := (hasF_iff n n).1 e; omega)
  have HP : Aside (PM w2 S p n 1 (fun _ => Go.Proofs.Ytndlkkacnpjlmaa.z0)) := P2
  clear P2 F2 HK
  go_wp2_with (first | (go_at_call 11; with_reducible refine k3.mono ?_; rintro e w' ⟨rfl, rfl⟩) | (go_at_call 11; with_reducible refine k4.mono ?_; rintro e w' ⟨rfl, rfl⟩) | (go_at_call 9; with_reducible refine k5.mono ?_; rintro e w' ⟨rfl, rfl⟩) | (go_at_call 18; with_reducible refine k6.mono ?_; rintro e w' ⟨rfl, rfl⟩))
  with_reducible refine (ptold_any _).mono ?_
  rintro e w3 ⟨rfl, K3⟩
  clear k3 k4 k5 k6
  have P3 := HP.out.kp K3
  have k7 := pops_any P3
  rw [show ((1 : Nat) : Int) = 1 from rfl] at k7
  have k8 := pclear_any P3 n (wf_nat HE.out.2.2)
  rw [show clearF n (fun _ => Go.Proofs.Ytndlkkacnpjlmaa.z0) n = false from by unfold clearF; rw [show hasF n n = false from by cases e : hasF n n; rfl; have := (hasF_iff n n).1 e; omega]; rfl] at k8
  have k9 := pclear_any P3 (-1) (by decide)
  rw [show clearF n (fun _ => Go.Proofs.Ytndlkkacnpjlmaa.z0) (-1) = false from by unfold clearF; rw [show hasF n (-1) = false from by cases e : hasF n (-1); rfl; have := (hasF_iff n (-1)).1 e; omega]; rfl] at k9
  have HK3 : Hid (Kp w w3) := HK2.out.trans K3
  clear P3 K3 HP HK2
  go_wp2_with (first | (go_at_call 24; with_reducible refine k7.mono ?_; rintro e w' ⟨rfl, rfl⟩) | (go_at_call 20; with_reducible refine k8.mono ?_; rintro e w' ⟨rfl, rfl⟩) | (go_at_call 20; with_reducible refine k9.mono ?_; rintro e w' ⟨rfl, rfl⟩))
  go_ret
  exact ⟨rfl, HK3.out⟩

set_option maxHeartbeats 4000000 in
set_option maxRecDepth 100000 in
theorem ends_8_1 (frames k : Int) (over m n E o8 : Nat) (w : World) (hm : bits .and .i64 frames 1048575 = (m : Int)) (z0 : 1 + (m : Int) = (n : Int)) (hn : 1 ≤ n ∧ n ≤ 1048576) (hk : bits .and .i64 k 3 = 3) (hE : E = n * 4096) (hd : bits .andNot .u64 (over : Int) 7 = (o8 : Int)) (hd2 : bits .andNot .u64 (o8 : Int) 7 = (o8 : Int)) (h8 : o8 % 8 = 0) (ho : o8 < 18446744073709551616) (hf : ¬ (o8 : Int) < E) :
    Calls Try.prog 5 #[.int .i64 frames, .int .u64 (over : Int), .int .i64 k] w fun e w' => e = .returned (.bool true) ∧ Kp w w' := by
  have k1 := new_ok n w hn.1 hn.2
  have z1 : (n : Int) ≤ 1048576 := by omega
  have O8 : Hid (o8 % 8 = 0 ∧ o8 < 18446744073709551616 ∧ E ≤ o8) := ⟨h8, ho, by omega⟩
  have HE : Hid (E = n * 4096 ∧ 1 ≤ n ∧ n ≤ 1048576) := ⟨hE, hn⟩
  have z3 : (n : Int) * 4096 = (E : Int) := by omega
  have z4 : (4096 : Int) ≤ E := by omega
  have z5 : (E : Int) ≤ 4294967296 := by omega
  have z6 : (1 : Int) ≤ n := by omega
  clear ho h8 hE hn
  go_enter Try.func5, Try.ntmps5
  go_wp2_with fail
  with_reducible refine k1.mono ?_
  rintro e w1 ⟨p, S, rfl, P1, K1, H1⟩
  clear k1
  have HK : Hid (Kp w w1 ∧ ∀ k, S k → w.heap.size ≤ k) := ⟨K1, H1⟩
  have k2 : Calls Try.prog 11 #[.pointer (some ⟨p, 0, none⟩), .int .u64 ((E : Int) - 8), .int .i64 8] w1 fun e w' => (∃ v : Int, e = .returned (.tuple #[.int .u64 v, .int .i64 0])) ∧ PM w' S p n 1 (fun _ => Go.Proofs.Ytndlkkacnpjlmaa.z0) ∧ Fr S w1 w' := by
    have := pread_ok P1 (E - 8) 8 (by have := HE.out; omega) (chkP_in (by unfold Size; omega) (by have := HE.out; omega) (by have := HE.out; omega)) (by omega)
    rw [show ((E - 8 : Nat) : Int) = (E : Int) - 8 by have := HE.out; omega, show ((8 : Nat) : Int) = 8 from rfl] at this
    exact this.mono fun e w' h => ⟨⟨_, h.1⟩, h.2⟩
  clear P1 K1 H1
  go_wp2_with fail
  with_reducible refine k2.mono ?_
  rintro e w2 ⟨⟨v, rfl⟩, P2, F2⟩
  clear k2
  have HK2 : Hid (Kp w w2) := F2.kp HK.out.1 HK.out.2
  have k3 : Calls Try.prog 11 #[.pointer (some ⟨p, 0, none⟩), .int .u64 (E : Int), .int .i64 8] w2 fun e w' => e = .returned (.tuple #[.int .u64 0, .int .i64 2]) ∧ w' = w2 := pread_no P2 E 8 2 (by have := HE.out; omega) (chkP_far (s := 8) (by unfold Size; omega) (by have := HE.out; omega) (by have := HE.out; omega)) (by decide)
  have k4 : Calls Try.prog 11 #[.pointer (some ⟨p, 0, none⟩), .int .u64 (o8 : Int), .int .i64 8] w2 fun e w' => e = .returned (.tuple #[.int .u64 0, .int .i64 2]) ∧ w' = w2 := by exact pread_no P2 o8 8 2 (by have := O8.out; omega) (chkP_far (s := 8) (by unfold Size; omega) (by have := O8.out; have := HE.out; omega) (by have := O8.out; have := HE.out; omega)) (by decide)
  have k5 : Calls Try.prog 9 #[.pointer (some ⟨p, 0, none⟩), .int .u64 (o8 : Int), .int .i64 8, .int .u64 1] w2 fun e w' => e = .returned (.int .i64 2) ∧ w' = w2 := by exact pwrite_no P2 o8 8 2 1 (by have := O8.out; omega) (chkP_far (s := 8) (by unfold Size; omega) (by have := O8.out; have := HE.out; omega) (by have := O8.out; have := HE.out; omega)) (by decide)
  have k6 := pget_no P2 n (by cases e : hasF n n; rfl; have := (hasF_iff n n).1 e; omega)
  have HP : Aside (PM w2 S p n 1 (fun _ => Go.Proofs.Ytndlkkacnpjlmaa.z0)) := P2
  clear P2 F2 HK
  go_wp2_with (first | (go_at_call 11; with_reducible refine k3.mono ?_; rintro e w' ⟨rfl, rfl⟩) | (go_at_call 11; with_reducible refine k4.mono ?_; rintro e w' ⟨rfl, rfl⟩) | (go_at_call 9; with_reducible refine k5.mono ?_; rintro e w' ⟨rfl, rfl⟩) | (go_at_call 18; with_reducible refine k6.mono ?_; rintro e w' ⟨rfl, rfl⟩))
  with_reducible refine (ptold_any _).mono ?_
  rintro e w3 ⟨rfl, K3⟩
  clear k3 k4 k5 k6
  have P3 := HP.out.kp K3
  have k7 := pops_any P3
  rw [show ((1 : Nat) : Int) = 1 from rfl] at k7
  have k8 := pclear_any P3 n (wf_nat HE.out.2.2)
  rw [show clearF n (fun _ => Go.Proofs.Ytndlkkacnpjlmaa.z0) n = false from by unfold clearF; rw [show hasF n n = false from by cases e : hasF n n; rfl; have := (hasF_iff n n).1 e; omega]; rfl] at k8
  have k9 := pclear_any P3 (-1) (by decide)
  rw [show clearF n (fun _ => Go.Proofs.Ytndlkkacnpjlmaa.z0) (-1) = false from by unfold clearF; rw [show hasF n (-1) = false from by cases e : hasF n (-1); rfl; have := (hasF_iff n (-1)).1 e; omega]; rfl] at k9
  have HK3 : Hid (Kp w w3) := HK2.out.trans K3
  clear P3 K3 HP HK2
  go_wp2_with (first | (go_at_call 24; with_reducible refine k7.mono ?_; rintro e w' ⟨rfl, rfl⟩) | (go_at_call 20; with_reducible refine k8.mono ?_; rintro e w' ⟨rfl, rfl⟩) | (go_at_call 20; with_reducible refine k9.mono ?_; rintro e w' ⟨rfl, rfl⟩))
  go_ret
  exact ⟨rfl, HK3.out⟩

theorem ends_any (frames over k : Int) (h1 : (Lit.int .u64 over).wf = true) (w : World) :
    Calls Try.prog 5 #[.int .i64 frames, .int .u64 over, .int .i64 k] w fun e w' => e = .returned (.bool true) ∧ Kp w w' := by
  have ho := wf_word h1
  obtain ⟨u, rfl⟩ : ∃ u : Nat, over = (u : Int) := ⟨over.toNat, by omega⟩
  have hm := mask20 frames
  have hk := mask2 k
  obtain ⟨m, hm'⟩ : ∃ m : Nat, frames % 1048576 = (m : Int) := ⟨(frames % 1048576).toNat, by omega⟩
  rw [hm'] at hm
  have hd := down8 u (by omega)
  have hd2 := down8 (u / 8 * 8) (by omega)
  rw [show u / 8 * 8 / 8 * 8 = u / 8 * 8 by omega] at hd2
  have hf : ((u / 8 * 8 : Nat) : Int) < ((1 + m) * 4096 : Nat) ∨ ¬ ((u / 8 * 8 : Nat) : Int) < ((1 + m) * 4096 : Nat) := by omega
  have c : k % 4 = 0 ∨ k % 4 = 1 ∨ k % 4 = 2 ∨ k % 4 = 3 := by omega
  rcases c with c | c | c | c <;> rw [c] at hk <;> rcases hf with hf | hf
  · exact ends_1_0 frames k u m (1 + m) _ _ w hm (by omega) (by omega) hk rfl hd hd2 (by omega) (by omega) hf
  · exact ends_1_1 frames k u m (1 + m) _ _ w hm (by omega) (by omega) hk rfl hd hd2 (by omega) (by omega) hf
  · exact ends_2_0 frames k u m (1 + m) _ _ w hm (by omega) (by omega) hk rfl hd hd2 (by omega) (by omega) hf
  · exact ends_2_1 frames k u m (1 + m) _ _ w hm (by omega) (by omega) hk rfl hd hd2 (by omega) (by omega) hf
  · exact ends_4_0 frames k u m (1 + m) _ _ w hm (by omega) (by omega) hk rfl hd hd2 (by omega) (by omega) hf
  · exact ends_4_1 frames k u m (1 + m) _ _ w hm (by omega) (by omega) hk rfl hd hd2 (by omega) (by omega) hf
  · exact ends_8_0 frames k u m (1 + m) _ _ w hm (by omega) (by omega) hk rfl hd hd2 (by omega) (by omega) hf
  · exact ends_8_1 frames k u m (1 + m) _ _ w hm (by omega) (by omega) hk rfl hd hd2 (by omega) (by omega) hf

end Go.Proofs.Ytndlkkacnpjlmaa
