/- PhysKeeps: the walk. -/
import Derived.Test.YtndlkkacnpjlmaaP9
namespace Go.Proofs.Ytndlkkacnpjlmaa
open Go.RowKit Go.Maps

set_option maxHeartbeats 4000000 in
set_option maxRecDepth 100000 in
theorem keeps_1 (frames k : Int) (at0 v m n E r a fr q ot : Nat) (w : World) (hm : bits .and .i64 frames 1048573 = (m : Int)) (y0 : 2 + (m : Int) = (n : Int)) (hn : 2 ≤ n ∧ n ≤ 1048576) (hk : bits .and .i64 k 3 = 0) (hE : E = n * 4096) (hr : r = at0 % E) (hd : bits .andNot .u64 (r : Int) 7 = (a : Int)) (h8 : a % 8 = 0) (ha : a < E) (hv : v < 18446744073709551616) (hfr : fr = a / 4096) (hq : q = a % 4096) (hot : ot = (fr + 1) % n) :
    Calls Try.prog 4 #[.int .i64 frames, .int .u64 (at0 : Int), .int .i64 k, .int .u64 (v : Int)] w fun e w' => e = .returned (.bool true) ∧ Kp w w' := by
  have k1 := new_ok n w (by omega) hn.2
  have z1 : (n : Int) ≤ 1048576 := by omega
  have hfn : fr < n := by omega
  have hno : ot < n ∧ ot ≠ fr := by
    by_cases c : fr + 1 = n
    · rw [c, Nat.mod_self] at hot; omega
    · rw [Nat.mod_eq_of_lt (by omega)] at hot; omega
  have z8 : ((fr : Int) + 1) % n = (ot : Int) := by rw [hot]; simp
  have HE : Hid (E = n * 4096 ∧ 2 ≤ n ∧ n ≤ 1048576 ∧ a % 8 = 0 ∧ a < E ∧ v < 18446744073709551616 ∧ fr = a / 4096 ∧ q = a % 4096 ∧ fr < n ∧ ot < n ∧ ot ≠ fr) := ⟨hE, hn.1, hn.2, h8, ha, hv, hfr, hq, hfn, hno⟩
  have z3 : (n : Int) * 4096 = (E : Int) := by omega
  have z4 : (8192 : Int) ≤ E := by omega
  have z5 : (E : Int) ≤ 4294967296 := by omega
  have z6 : (at0 : Int) % E = (r : Int) := by omega
  have z7 : (a : Int) < E := by omega
  have z9 : (a : Int) / 4096 = (fr : Int) := by omega
  have z10 : (a : Int) % 4096 = (q : Int) := by omega
  have z11 : (fr : Int) < n := by omega
  have z12 : (ot : Int) < n := by omega
  have z13 : (2 : Int) ≤ n := by omega
  have z14 : (q : Int) < 4096 := by omega
  clear hE hn hr h8 ha hv hfr hq hot hfn hno
  go_enter Try.func4, Try.ntmps4
  go_wp2_with fail
  with_reducible refine k1.mono ?_
  rintro e w1 ⟨p, S, rfl, P1, K1, H1⟩
  clear k1
  have k2 : Calls Try.prog 9 #[.pointer (some ⟨p, 0, none⟩), .int .u64 (a : Int), .int .i64 8, .int .u64 (v : Int)] w1 fun e w' => e = .returned (.int .i64 0) ∧ ∃ S', PM w' S' p n 1 (putFr (fun _ => z0) fr (putF z0 q 8 v)) ∧ Fr S w1 w' ∧ Less S S' w1 := by
    have h := HE.out
    have := pwrite_ok P1 a 8 v (by omega) (chkP_in (by unfold Size; omega) (by omega) (by omega)) (by omega) (by omega)
    rw [← h.2.2.2.2.2.2.1, ← h.2.2.2.2.2.2.2.1] at this
    exact this
  have HK : Hid (Kp w w1 ∧ ∀ k, S k → w.heap.size ≤ k) := ⟨K1, H1⟩
  clear P1 K1 H1
  go_wp2_with fail
  with_reducible refine k2.mono ?_
  rintro e w2 ⟨rfl, S2, P2, F2, L2⟩
  clear k2
  have HK2 : Hid (Kp w w2 ∧ ∀ k, S2 k → w.heap.size ≤ k) := ⟨F2.kp HK.out.1 HK.out.2, fun k hk => (L2 k hk).elim (HK.out.2 k) (fun h => Nat.le_trans HK.out.1.size h)⟩
  obtain ⟨F1, hF1⟩ : ∃ F1, F1 = putFr (fun _ => z0) fr (putF z0 q 8 v) := ⟨_, rfl⟩
  rw [← hF1] at P2
  have HP2 : Hid (PM w2 S2 p n 1 F1) := P2
  have HF : Hid (F1 fr = putF z0 q 8 v) := (show F1 fr = putF z0 q 8 v by rw [hF1, putFr_same])
  have HS : Hid (∀ k, S2 k → w.heap.size ≤ k) := HK2.out.2
  clear P2 F2 L2 HK hF1
  go_wp2_with fail
  go_loopg [14, 15] 9 (fun g v14 v15 wr => ∃ r' ops : Nat, v14 = .int .u64 ((v / 2 ^ (8 * r') : Nat) : Int) ∧ v15 = .int .i64 ((r' : Int) - 1) ∧ r' ≤ 8 ∧ r' % 1 = 0 ∧ r' ≤ g ∧ ops + r' ≤ 9 ∧ Hid (PM wr S2 p n ops F1) ∧ Hid (Kp w wr))
  case atStart => exact ⟨8, 1, by rw [Nat.div_eq_of_lt HE.out.2.2.2.2.2.1]; rfl, by go_num, by omega, by omega, by omega, by omega, HP2, HK2.out.1⟩
  case round =>
    clear HP2 HK2
    obtain ⟨r', ops, rfl, rfl, h1, h2, hg, h4, HP, HK⟩ := hrel
    by_cases hlt : 1 ≤ r'
    · obtain ⟨i, rfl⟩ : ∃ i, r' = i + 1 := ⟨r' - 1, by omega⟩
      rw [show ((i + 1 : Nat) : Int) - 1 = (i : Int) by omega]
      have y1 : (i : Int) ≤ 8 := by omega
      have k3 : Calls Try.prog 11 #[.pointer (some ⟨p, 0, none⟩), .int .u64 ((a : Int) + i), .int .i64 1] wr fun e w' => e = .returned (.tuple #[.int .u64 ((v / 2 ^ (8 * i) % 2 ^ (8 * 1) : Nat) : Int), .int .i64 0]) ∧ PM w' S2 p n (ops + 1) F1 ∧ Fr S2 wr w' := by
        have h := HE.out
        have := pread_ok HP.out (a + i) 1 (by omega) (chkP_in (by unfold Size; omega) (by omega) (by omega)) (by omega)
        rw [show (a + i) / 4096 = fr by omega, show (a + i) % 4096 = q + i by omega, HF.out, numb_in z0 q 8 v (q + i) (by omega) 1 (by omega), show q + i - q = i by omega, show ((a + i : Nat) : Int) = (a : Int) + i by omega] at this
        exact this
      obtain ⟨o1, o2⟩ := part_or v i 1 HE.out.2.2.2.2.2.1
      rw [show 2 ^ (8 * 1) = 256 from rfl] at o1 o2 k3
      have l1 : v / 2 ^ (8 * (i + 1)) < 72057594037927936 := by omega
      obtain ⟨u, hu⟩ : ∃ u, u = v / 2 ^ (8 * (i + 1)) := ⟨_, rfl⟩
      obtain ⟨d, hd'⟩ : ∃ d, d = v / 2 ^ (8 * i) % 256 := ⟨_, rfl⟩
      obtain ⟨t, ht⟩ : ∃ t, t = v / 2 ^ (8 * i) := ⟨_, rfl⟩
      rw [← hu, ← hd', ← ht] at o2
      rw [← hd'] at k3
      rw [← hu] at l1
      rw [← hu]
      rw [Int.natCast_mul] at o2
      rw [show ((256 : Nat) : Int) = 256 from rfl] at o2
      have y2 : (u : Int) < 72057594037927936 := by omega
      have HT : Hid (t = v / 2 ^ (8 * i)) := ht
      clear o1 hu hd' ht l1
      go_wp2_with fail
      with_reducible refine k3.mono ?_
      rintro e w3 ⟨rfl, P3, F3⟩
      have HP3 : Hid (PM w3 S2 p n (ops + 1) F1) := P3
      have HK3 : Hid (Kp w w3) := F3.kp HK.out HS.out
      clear k3 P3 F3 HP HK
      go_wp2
      go_roundg i
      case measure => omega
      case rel => exact ⟨i, ops + 1, by rw [HT.out], by go_num, by omega, by omega, by omega, by omega, HP3, HK3⟩
    · have e0 : r' = 0 := by omega
      subst e0
      rw [Nat.mul_zero, Nat.pow_zero, Nat.div_one]
      have k3 := pget_ok HP.out fr HE.out.2.2.2.2.2.2.2.2.1
      go_wp2_with fail
      with_reducible refine k3.mono ?_
      rintro e w3 ⟨rfl, R3, K3⟩
      have P3 := HP.out.kp K3
      have k4 := pset_ok P3 ot HE.out.2.2.2.2.2.2.2.2.2.1 wr.heap.size 0 4096 (F1 fr) R3.lt (R3.bs (by rw [HF.out]; exact putF_byte z0_byte _ _ _)).cells (by rw [HF.out]; exact putF_byte z0_byte _ _ _)
      have HK3 : Hid (Kp w w3) := HK.out.trans K3
      clear k3 R3 K3 P3 HP HK
      go_wp2_with fail
      with_reducible refine k4.mono ?_
      rintro e w4 ⟨rfl, S4, P4, F4, L4⟩
      have k5 := psame_any P4 fr ot
      have h := HE.out
      have hFf : putFr F1 ot (F1 fr) fr = putF z0 q 8 v := by rw [putFr_other _ _ _ _ (by omega)]; exact HF.out
      have hFo : putFr F1 ot (F1 fr) ot = putF z0 q 8 v := by rw [putFr_same]; exact HF.out
      rw [show sameF n (putFr F1 ot (F1 fr)) fr ot = true from by
        unfold sameF
        rw [(hasF_iff n fr).2 (by omega), (hasF_iff n ot).2 (by omega), show ((fr : Int)).toNat = fr from rfl, show ((ot : Int)).toNat = ot from rfl, hFf, hFo, alike_of (fun _ _ => rfl)]; rfl] at k5
      have HK4 : Hid (Kp w w4 ∧ ∀ k, S4 k → w.heap.size ≤ k) := ⟨F4.kp HK3.out HS.out, fun k hk => (L4 k hk).elim (HS.out k) (fun h => Nat.le_trans HK3.out.size h)⟩
      have HP4 : Hid (PM w4 S4 p n ops (putFr F1 ot (F1 fr))) := P4
      have HFo : Hid (putFr F1 ot (F1 fr) ot = putF z0 q 8 v) := hFo
      clear k4 P4 F4 L4 HK3 HS h hFf hFo
      go_wp2_with fail
      with_reducible refine k5.mono ?_
      rintro e w5 ⟨rfl, D5⟩
      have k6 := pzero_ok (HP4.out.kp D5.kp) fr HE.out.2.2.2.2.2.2.2.2.1
      have HK5 : Hid (Kp w w5 ∧ ∀ k, S4 k → w.heap.size ≤ k) := ⟨HK4.out.1.trans D5.kp, HK4.out.2⟩
      clear k5 D5 HP4 HK4
      go_wp2_with fail
      with_reducible refine k6.mono ?_
      rintro e w6 ⟨rfl, P6, F6⟩
      have hF6 : putFr (putFr F1 ot (F1 fr)) fr z0 ot = putF z0 q 8 v := by rw [putFr_other _ _ _ _ HE.out.2.2.2.2.2.2.2.2.2.2]; exact HFo.out
      have k7 : Calls Try.prog 11 #[.pointer (some ⟨p, 0, none⟩), .int .u64 ((ot : Int) * 4096 + q), .int .i64 8] w6 fun e w' => e = .returned (.tuple #[.int .u64 (v : Int), .int .i64 0]) ∧ PM w' S4 p n (ops + 1) (putFr (putFr F1 ot (F1 fr)) fr z0) ∧ Fr S4 w6 w' := by
        have h := HE.out
        have := pread_ok P6 (ot * 4096 + q) 8 (by omega) (chkP_in (by unfold Size; omega) (by omega) (by omega)) (by omega)
        rw [show (ot * 4096 + q) / 4096 = ot by omega, show (ot * 4096 + q) % 4096 = q by omega, hF6, numb_whole z0 q v h.2.2.2.2.2.1, show ((ot * 4096 + q : Nat) : Int) = (ot : Int) * 4096 + q by omega] at this
        exact this
      have HK6 : Hid (Kp w w6 ∧ ∀ k, S4 k → w.heap.size ≤ k) := ⟨F6.kp HK5.out.1 HK5.out.2, HK5.out.2⟩
      have HF6 : Hid (putFr (putFr F1 ot (F1 fr)) fr z0 ot = putF z0 q 8 v) := hF6
      clear k6 P6 F6 HK5 hF6
      go_wp2_with fail
      with_reducible refine k7.mono ?_
      rintro e w7 ⟨rfl, P7, F7⟩
      have HP7 : Hid (PM w7 S4 p n (ops + 1) (putFr (putFr F1 ot (F1 fr)) fr z0)) := P7
      have HK7 : Hid (Kp w w7) := F7.kp HK6.out.1 HK6.out.2
      clear k7 P7 F7 HK6
      go_wp2_with fail
      with_reducible refine (ptold_any _).mono ?_
      rintro e w8 ⟨rfl, K8⟩
      have P8 := HP7.out.kp K8
      have k8 := pclear_any P8 fr (wf_nat (by have := HE.out; omega))
      have k9 := pclear_any P8 ot (wf_nat (by have := HE.out; omega))
      rw [show clearF n (putFr (putFr F1 ot (F1 fr)) fr z0) fr = true from by
        unfold clearF
        rw [(hasF_iff n fr).2 (by have := HE.out; omega), show ((fr : Int)).toNat = fr from rfl, putFr_same, alike_of (fun _ _ => rfl)]; rfl] at k8
      rw [show clearF n (putFr (putFr F1 ot (F1 fr)) fr z0) ot = decide (v = 0) from by
        have h := HE.out
        unfold clearF
        rw [(hasF_iff n ot).2 (by omega), show ((ot : Int)).toNat = ot from rfl, HF6.out, putF_zero_iff q v (by omega) h.2.2.2.2.2.1]; rfl] at k9
      have HK8 : Hid (Kp w w8) := HK7.out.trans K8
      clear P8 HP7 HK7 K8 HF6
      by_cases ev : v = 0
      · rw [decide_eq_true ev] at k9
        have ev' : (v : Int) = 0 := by omega
        go_wp2_with (first | (go_at_call 20; with_reducible refine k8.mono ?_; rintro e w' ⟨rfl, rfl⟩) | (go_at_call 20; with_reducible refine k9.mono ?_; rintro e w' ⟨rfl, rfl⟩))
        go_ret
        exact ⟨rfl, HK8.out⟩
      · rw [decide_eq_false ev] at k9
        have ev' : ((v : Int) == 0) = false := by rw [beq_eq_false_iff_ne]; omega
        go_wp2_with (first | (go_at_call 20; with_reducible refine k8.mono ?_; rintro e w' ⟨rfl, rfl⟩) | (go_at_call 20; with_reducible refine k9.mono ?_; rintro e w' ⟨rfl, rfl⟩))
        go_ret
        exact ⟨rfl, HK8.out⟩

set_option maxHeartbeats 4000000 in
set_option maxRecDepth 100000 in
theorem keeps_2 (frames k : Int) (at0 v m n E r a fr q ot : Nat) (w : World) (hm : bits .and .i64 frames 1048573 = (m : Int)) (y0 : 2 + (m : Int) = (n : Int)) (hn : 2 ≤ n ∧ n ≤ 1048576) (hk : bits .and .i64 k 3 = 1) (hE : E = n * 4096) (hr : r = at0 % E) (hd : bits .andNot .u64 (r : Int) 7 = (a : Int)) (h8 : a % 8 = 0) (ha : a < E) (hv : v < 18446744073709551616) (hfr : fr = a / 4096) (hq : q = a % 4096) (hot : ot = (fr + 1) % n) :
    Calls Try.prog 4 #[.int .i64 frames, .int .u64 (at0 : Int), .int .i64 k, .int .u64 (v : Int)] w fun e w' => e = .returned (.bool true) ∧ Kp w w' := by
  have k1 := new_ok n w (by omega) hn.2
  have z1 : (n : Int) ≤ 1048576 := by omega
  have hfn : fr < n := by omega
  have hno : ot < n ∧ ot ≠ fr := by
    by_cases c : fr + 1 = n
    · rw [c, Nat.mod_self] at hot; omega
    · rw [Nat.mod_eq_of_lt (by omega)] at hot; omega
  have z8 : ((fr : Int) + 1) % n = (ot : Int) := by rw [hot]; simp
  have HE : Hid (E = n * 4096 ∧ 2 ≤ n ∧ n ≤ 1048576 ∧ a % 8 = 0 ∧ a < E ∧ v < 18446744073709551616 ∧ fr = a / 4096 ∧ q = a % 4096 ∧ fr < n ∧ ot < n ∧ ot ≠ fr) := ⟨hE, hn.1, hn.2, h8, ha, hv, hfr, hq, hfn, hno⟩
  have z3 : (n : Int) * 4096 = (E : Int) := by omega
  have z4 : (8192 : Int) ≤ E := by omega
  have z5 : (E : Int) ≤ 4294967296 := by omega
  have z6 : (at0 : Int) % E = (r : Int) := by omega
  have z7 : (a : Int) < E := by omega
  have z9 : (a : Int) / 4096 = (fr : Int) := by omega
  have z10 : (a : Int) % 4096 = (q : Int) := by omega
  have z11 : (fr : Int) < n := by omega
  have z12 : (ot : Int) < n := by omega
  have z13 : (2 : Int) ≤ n := by omega
  have z14 : (q : Int) < 4096 := by omega
  clear hE hn hr h8 ha hv hfr hq hot hfn hno
  go_enter Try.func4, Try.ntmps4
  go_wp2_with fail
  with_reducible refine k1.mono ?_
  rintro e w1 ⟨p, S, rfl, P1, K1, H1⟩
  clear k1
  have k2 : Calls Try.prog 9 #[.pointer (some ⟨p, 0, none⟩), .int .u64 (a : Int), .int .i64 8, .int .u64 (v : Int)] w1 fun e w' => e = .returned (.int .i64 0) ∧ ∃ S', PM w' S' p n 1 (putFr (fun _ => z0) fr (putF z0 q 8 v)) ∧ Fr S w1 w' ∧ Less S S' w1 := by
    have h := HE.out
    have := pwrite_ok P1 a 8 v (by omega) (chkP_in (by unfold Size; omega) (by omega) (by omega)) (by omega) (by omega)
    rw [← h.2.2.2.2.2.2.1, ← h.2.2.2.2.2.2.2.1] at this
    exact this
  have HK : Hid (Kp w w1 ∧ ∀ k, S k → w.heap.size ≤ k) := ⟨K1, H1⟩
  clear P1 K1 H1
  go_wp2_with fail
  with_reducible refine k2.mono ?_
  rintro e w2 ⟨rfl, S2, P2, F2, L2⟩
  clear k2
  have HK2 : Hid (Kp w w2 ∧ ∀ k, S2 k → w.heap.size ≤ k) := ⟨F2.kp HK.out.1 HK.out.2, fun k hk => (L2 k hk).elim (HK.out.2 k) (fun h => Nat.le_trans HK.out.1.size h)⟩
  obtain ⟨F1, hF1⟩ : ∃ F1, F1 = putFr (fun _ => z0) fr (putF z0 q 8 v) := ⟨_, rfl⟩
  rw [← hF1] at P2
  have HP2 : Hid (PM w2 S2 p n 1 F1) := P2
  have HF : Hid (F1 fr = putF z0 q 8 v) := (show F1 fr = putF z0 q 8 v by rw [hF1, putFr_same])
  have HS : Hid (∀ k, S2 k → w.heap.size ≤ k) := HK2.out.2
  clear P2 F2 L2 HK hF1
  go_wp2_with fail
  go_loopg [14, 15] 9 (fun g v14 v15 wr => ∃ r' ops : Nat, v14 = .int .u64 ((v / 2 ^ (8 * r') : Nat) : Int) ∧ v15 = .int .i64 ((r' : Int) - 2) ∧ r' ≤ 8 ∧ r' % 2 = 0 ∧ r' ≤ g ∧ ops + r' ≤ 9 ∧ Hid (PM wr S2 p n ops F1) ∧ Hid (Kp w wr))
  case atStart => exact ⟨8, 1, by rw [Nat.div_eq_of_lt HE.out.2.2.2.2.2.1]; rfl, by go_num, by omega, by omega, by omega, by omega, HP2, HK2.out.1⟩
  case round =>
    clear HP2 HK2
    obtain ⟨r', ops, rfl, rfl, h1, h2, hg, h4, HP, HK⟩ := hrel
    by_cases hlt : 2 ≤ r'
    · obtain ⟨i, rfl⟩ : ∃ i, r' = i + 2 := ⟨r' - 2, by omega⟩
      rw [show ((i + 2 : Nat) : Int) - 2 = (i : Int) by omega]
      have y1 : (i : Int) ≤ 8 := by omega
      have k3 : Calls Try.prog 11 #[.pointer (some ⟨p, 0, none⟩), .int .u64 ((a : Int) + i), .int .i64 2] wr fun e w' => e = .returned (.tuple #[.int .u64 ((v / 2 ^ (8 * i) % 2 ^ (8 * 2) : Nat) : Int), .int .i64 0]) ∧ PM w' S2 p n (ops + 1) F1 ∧ Fr S2 wr w' := by
        have h := HE.out
        have := pread_ok HP.out (a + i) 2 (by omega) (chkP_in (by unfold Size; omega) (by omega) (by omega)) (by omega)
        rw [show (a + i) / 4096 = fr by omega, show (a + i) % 4096 = q + i by omega, HF.out, numb_in z0 q 8 v (q + i) (by omega) 2 (by omega), show q + i - q = i by omega, show ((a + i : Nat) : Int) = (a : Int) + i by omega] at this
        exact this
      obtain ⟨o1, o2⟩ := part_or v i 2 HE.out.2.2.2.2.2.1
      rw [show 2 ^ (8 * 2) = 65536 from rfl] at o1 o2 k3
      have l1 : v / 2 ^ (8 * (i + 2)) < 281474976710656 := by omega
      obtain ⟨u, hu⟩ : ∃ u, u = v / 2 ^ (8 * (i + 2)) := ⟨_, rfl⟩
      obtain ⟨d, hd'⟩ : ∃ d, d = v / 2 ^ (8 * i) % 65536 := ⟨_, rfl⟩
      obtain ⟨t, ht⟩ : ∃ t, t = v / 2 ^ (8 * i) := ⟨_, rfl⟩
      rw [← hu, ← hd', ← ht] at o2
      rw [← hd'] at k3
      rw [← hu] at l1
      rw [← hu]
      rw [Int.natCast_mul] at o2
      rw [show ((65536 : Nat) : Int) = 65536 from rfl] at o2
      have y2 : (u : Int) < 281474976710656 := by omega
      have HT : Hid (t = v / 2 ^ (8 * i)) := ht
      clear o1 hu hd' ht l1
      go_wp2_with fail
      with_reducible refine k3.mono ?_
      rintro e w3 ⟨rfl, P3, F3⟩
      have HP3 : Hid (PM w3 S2 p n (ops + 1) F1) := P3
      have HK3 : Hid (Kp w w3) := F3.kp HK.out HS.out
      clear k3 P3 F3 HP HK
      go_wp2
      go_roundg i
      case measure => omega
      case rel => exact ⟨i, ops + 1, by rw [HT.out], by go_num, by omega, by omega, by omega, by omega, HP3, HK3⟩
    · have e0 : r' = 0 := by omega
      subst e0
      rw [Nat.mul_zero, Nat.pow_zero, Nat.div_one]
      have k3 := pget_ok HP.out fr HE.out.2.2.2.2.2.2.2.2.1
      go_wp2_with fail
      with_reducible refine k3.mono ?_
      rintro e w3 ⟨rfl, R3, K3⟩
      have P3 := HP.out.kp K3
      have k4 := pset_ok P3 ot HE.out.2.2.2.2.2.2.2.2.2.1 wr.heap.size 0 4096 (F1 fr) R3.lt (R3.bs (by rw [HF.out]; exact putF_byte z0_byte _ _ _)).cells (by rw [HF.out]; exact putF_byte z0_byte _ _ _)
      have HK3 : Hid (Kp w w3) := HK.out.trans K3
      clear k3 R3 K3 P3 HP HK
      go_wp2_with fail
      with_reducible refine k4.mono ?_
      rintro e w4 ⟨rfl, S4, P4, F4, L4⟩
      have k5 := psame_any P4 fr ot
      have h := HE.out
      have hFf : putFr F1 ot (F1 fr) fr = putF z0 q 8 v := by rw [putFr_other _ _ _ _ (by omega)]; exact HF.out
      have hFo : putFr F1 ot (F1 fr) ot = putF z0 q 8 v := by rw [putFr_same]; exact HF.out
      rw [show sameF n (putFr F1 ot (F1 fr)) fr ot = true from by
        unfold sameF
        rw [(hasF_iff n fr).2 (by omega), (hasF_iff n ot).2 (by omega), show ((fr : Int)).toNat = fr from rfl, show ((ot : Int)).toNat = ot from rfl, hFf, hFo, alike_of (fun _ _ => rfl)]; rfl] at k5
      have HK4 : Hid (Kp w w4 ∧ ∀ k, S4 k → w.heap.size ≤ k) := ⟨F4.kp HK3.out HS.out, fun k hk => (L4 k hk).elim (HS.out k) (fun h => Nat.le_trans HK3.out.size h)⟩
      have HP4 : Hid (PM w4 S4 p n ops (putFr F1 ot (F1 fr))) := P4
      have HFo : Hid (putFr F1 ot (F1 fr) ot = putF z0 q 8 v) := hFo
      clear k4 P4 F4 L4 HK3 HS h hFf hFo
      go_wp2_with fail
      with_reducible refine k5.mono ?_
      rintro e w5 ⟨rfl, D5⟩
      have k6 := pzero_ok (HP4.out.kp D5.kp) fr HE.out.2.2.2.2.2.2.2.2.1
      have HK5 : Hid (Kp w w5 ∧ ∀ k, S4 k → w.heap.size ≤ k) := ⟨HK4.out.1.trans D5.kp, HK4.out.2⟩
      clear k5 D5 HP4 HK4
      go_wp2_with fail
      with_reducible refine k6.mono ?_
      rintro e w6 ⟨rfl, P6, F6⟩
      have hF6 : putFr (putFr F1 ot (F1 fr)) fr z0 ot = putF z0 q 8 v := by rw [putFr_other _ _ _ _ HE.out.2.2.2.2.2.2.2.2.2.2]; exact HFo.out
      have k7 : Calls Try.prog 11 #[.pointer (some ⟨p, 0, none⟩), .int .u64 ((ot : Int) * 4096 + q), .int .i64 8] w6 fun e w' => e = .returned (.tuple #[.int .u64 (v : Int), .int .i64 0]) ∧ PM w' S4 p n (ops + 1) (putFr (putFr F1 ot (F1 fr)) fr z0) ∧ Fr S4 w6 w' := by
        have h := HE.out
        have := pread_ok P6 (ot * 4096 + q) 8 (by omega) (chkP_in (by unfold Size; omega) (by omega) (by omega)) (by omega)
        rw [show (ot * 4096 + q) / 4096 = ot by omega, show (ot * 4096 + q) % 4096 = q by omega, hF6, numb_whole z0 q v h.2.2.2.2.2.1, show ((ot * 4096 + q : Nat) : Int) = (ot : Int) * 4096 + q by omega] at this
        exact this
      have HK6 : Hid (Kp w w6 ∧ ∀ k, S4 k → w.heap.size ≤ k) := ⟨F6.kp HK5.out.1 HK5.out.2, HK5.out.2⟩
      have HF6 : Hid (putFr (putFr F1 ot (F1 fr)) fr z0 ot = putF z0 q 8 v) := hF6
      clear k6 P6 F6 HK5 hF6
      go_wp2_with fail
      with_reducible refine k7.mono ?_
      rintro e w7 ⟨rfl, P7, F7⟩
      have HP7 : Hid (PM w7 S4 p n (ops + 1) (putFr (putFr F1 ot (F1 fr)) fr z0)) := P7
      have HK7 : Hid (Kp w w7) := F7.kp HK6.out.1 HK6.out.2
      clear k7 P7 F7 HK6
      go_wp2_with fail
      with_reducible refine (ptold_any _).mono ?_
      rintro e w8 ⟨rfl, K8⟩
      have P8 := HP7.out.kp K8
      have k8 := pclear_any P8 fr (wf_nat (by have := HE.out; omega))
      have k9 := pclear_any P8 ot (wf_nat (by have := HE.out; omega))
      rw [show clearF n (putFr (putFr F1 ot (F1 fr)) fr z0) fr = true from by
        unfold clearF
        rw [(hasF_iff n fr).2 (by have := HE.out; omega), show ((fr : Int)).toNat = fr from rfl, putFr_same, alike_of (fun _ _ => rfl)]; rfl] at k8
      rw [show clearF n (putFr (putFr F1 ot (F1 fr)) fr z0) ot = decide (v = 0) from by
        have h := HE.out
        unfold clearF
        rw [(hasF_iff n ot).2 (by omega), show ((ot : Int)).toNat = ot from rfl, HF6.out, putF_zero_iff q v (by omega) h.2.2.2.2.2.1]; rfl] at k9
      have HK8 : Hid (Kp w w8) := HK7.out.trans K8
      clear P8 HP7 HK7 K8 HF6
      by_cases ev : v = 0
      · rw [decide_eq_true ev] at k9
        have ev' : (v : Int) = 0 := by omega
        go_wp2_with (first | (go_at_call 20; with_reducible refine k8.mono ?_; rintro e w' ⟨rfl, rfl⟩) | (go_at_call 20; with_reducible refine k9.mono ?_; rintro e w' ⟨rfl, rfl⟩))
        go_ret
        exact ⟨rfl, HK8.out⟩
      · rw [decide_eq_false ev] at k9
        have ev' : ((v : Int) == 0) = false := by rw [beq_eq_false_iff_ne]; omega
        go_wp2_with (first | (go_at_call 20; with_reducible refine k8.mono ?_; rintro e w' ⟨rfl, rfl⟩) | (go_at_call 20; with_reducible refine k9.mono ?_; rintro e w' ⟨rfl, rfl⟩))
        go_ret
        exact ⟨rfl, HK8.out⟩

set_option maxHeartbeats 4000000 in
set_option maxRecDepth 100000 in
theorem keeps_4 (frames k : Int) (at0 v m n E r a fr q ot : Nat) (w : World) (hm : bits .and .i64 frames 1048573 = (m : Int)) (y0 : 2 + (m : Int) = (n : Int)) (hn : 2 ≤ n ∧ n ≤ 1048576) (hk : bits .and .i64 k 3 = 2) (hE : E = n * 4096) (hr : r = at0 % E) (hd : bits .andNot .u64 (r : Int) 7 = (a : Int)) (h8 : a % 8 = 0) (ha : a < E) (hv : v < 18446744073709551616) (hfr : fr = a / 4096) (hq : q = a % 4096) (hot : ot = (fr + 1) % n) :
    Calls Try.prog 4 #[.int .i64 frames, .int .u64 (at0 : Int), .int .i64 k, .int .u64 (v : Int)] w fun e w' => e = .returned (.bool true) ∧ Kp w w' := by
  have k1 := new_ok n w (by omega) hn.2
  have z1 : (n : Int) ≤ 1048576 := by omega
  have hfn : fr < n := by omega
  have hno : ot < n ∧ ot ≠ fr := by
    by_cases c : fr + 1 = n
    · rw [c, Nat.mod_self] at hot; omega
    · rw [Nat.mod_eq_of_lt (by omega)] at hot; omega
  have z8 : ((fr : Int) + 1) % n = (ot : Int) := by rw [hot]; simp
  have HE : Hid (E = n * 4096 ∧ 2 ≤ n ∧ n ≤ 1048576 ∧ a % 8 = 0 ∧ a < E ∧ v < 18446744073709551616 ∧ fr = a / 4096 ∧ q = a % 4096 ∧ fr < n ∧ ot < n ∧ ot ≠ fr) := ⟨hE, hn.1, hn.2, h8, ha, hv, hfr, hq, hfn, hno⟩
  have z3 : (n : Int) * 4096 = (E : Int) := by omega
  have z4 : (8192 : Int) ≤ E := by omega
  have z5 : (E : Int) ≤ 4294967296 := by omega
  have z6 : (at0 : Int) % E = (r : Int) := by omega
  have z7 : (a : Int) < E := by omega
  have z9 : (a : Int) / 4096 = (fr : Int) := by omega
  have z10 : (a : Int) % 4096 = (q : Int) := by omega
  have z11 : (fr : Int) < n := by omega
  have z12 : (ot : Int) < n := by omega
  have z13 : (2 : Int) ≤ n := by omega
  have z14 : (q : Int) < 4096 := by omega
  clear hE hn hr h8 ha hv hfr hq hot hfn hno
  go_enter Try.func4, Try.ntmps4
  go_wp2_with fail
  with_reducible refine k1.mono ?_
  rintro e w1 ⟨p, S, rfl, P1, K1, H1⟩
  clear k1
  have k2 : Calls Try.prog 9 #[.pointer (some ⟨p, 0, none⟩), .int .u64 (a : Int), .int .i64 8, .int .u64 (v : Int)] w1 fun e w' => e = .returned (.int .i64 0) ∧ ∃ S', PM w' S' p n 1 (putFr (fun _ => z0) fr (putF z0 q 8 v)) ∧ Fr S w1 w' ∧ Less S S' w1 := by
    have h := HE.out
    have := pwrite_ok P1 a 8 v (by omega) (chkP_in (by unfold Size; omega) (by omega) (by omega)) (by omega) (by omega)
    rw [← h.2.2.2.2.2.2.1, ← h.2.2.2.2.2.2.2.1] at this
    exact this
  have HK : Hid (Kp w w1 ∧ ∀ k, S k → w.heap.size ≤ k) := ⟨K1, H1⟩
  clear P1 K1 H1
  go_wp2_with fail
  with_reducible refine k2.mono ?_
  rintro e w2 ⟨rfl, S2, P2, F2, L2⟩
  clear k2
  have HK2 : Hid (Kp w w2 ∧ ∀ k, S2 k → w.heap.size ≤ k) := ⟨F2.kp HK.out.1 HK.out.2, fun k hk => (L2 k hk).elim (HK.out.2 k) (fun h => Nat.le_trans HK.out.1.size h)⟩
  obtain ⟨F1, hF1⟩ : ∃ F1, F1 = putFr (fun _ => z0) fr (putF z0 q 8 v) := ⟨_, rfl⟩
  rw [← hF1] at P2
  have HP2 : Hid (PM w2 S2 p n 1 F1) := P2
  have HF : Hid (F1 fr = putF z0 q 8 v) := (show F1 fr = putF z0 q 8 v by rw [hF1, putFr_same])
  have HS : Hid (∀ k, S2 k → w.heap.size ≤ k) := HK2.out.2
  clear P2 F2 L2 HK hF1
  go_wp2_with fail
  go_loopg [14, 15] 9 (fun g v14 v15 wr => ∃ r' ops : Nat, v14 = .int .u64 ((v / 2 ^ (8 * r') : Nat) : Int) ∧ v15 = .int .i64 ((r' : Int) - 4) ∧ r' ≤ 8 ∧ r' % 4 = 0 ∧ r' ≤ g ∧ ops + r' ≤ 9 ∧ Hid (PM wr S2 p n ops F1) ∧ Hid (Kp w wr))
  case atStart => exact ⟨8, 1, by rw [Nat.div_eq_of_lt HE.out.2.2.2.2.2.1]; rfl, by go_num, by omega, by omega, by omega, by omega, HP2, HK2.out.1⟩
  case round =>
    clear HP2 HK2
    obtain ⟨r', ops, rfl, rfl, h1, h2, hg, h4, HP, HK⟩ := hrel
    by_cases hlt : 4 ≤ r'
    · obtain ⟨i, rfl⟩ : ∃ i, r' = i + 4 := ⟨r' - 4, by omega⟩
      rw [show ((i + 4 : Nat) : Int) - 4 = (i : Int) by omega]
      have y1 : (i : Int) ≤ 8 := by omega
      have k3 : Calls Try.prog 11 #[.pointer (some ⟨p, 0, none⟩), .int .u64 ((a : Int) + i), .int .i64 4] wr fun e w' => e = .returned (.tuple #[.int .u64 ((v / 2 ^ (8 * i) % 2 ^ (8 * 4) : Nat) : Int), .int .i64 0]) ∧ PM w' S2 p n (ops + 1) F1 ∧ Fr S2 wr w' := by
        have h := HE.out
        have := pread_ok HP.out (a + i) 4 (by omega) (chkP_in (by unfold Size; omega) (by omega) (by omega)) (by omega)
        rw [show (a + i) / 4096 = fr by omega, show (a + i) % 4096 = q + i by omega, HF.out, numb_in z0 q 8 v (q + i) (by omega) 4 (by omega), show q + i - q = i by omega, show ((a + i : Nat) : Int) = (a : Int) + i by omega] at this
        exact this
      obtain ⟨o1, o2⟩ := part_or v i 4 HE.out.2.2.2.2.2.1
      rw [show 2 ^ (8 * 4) = 4294967296 from rfl] at o1 o2 k3
      have l1 : v / 2 ^ (8 * (i + 4)) < 4294967296 := by omega
      obtain ⟨u, hu⟩ : ∃ u, u = v / 2 ^ (8 * (i + 4)) := ⟨_, rfl⟩
      obtain ⟨d, hd'⟩ : ∃ d, d = v / 2 ^ (8 * i) % 4294967296 := ⟨_, rfl⟩
      obtain ⟨t, ht⟩ : ∃ t, t = v / 2 ^ (8 * i) := ⟨_, rfl⟩
      rw [← hu, ← hd', ← ht] at o2
      rw [← hd'] at k3
      rw [← hu] at l1
      rw [← hu]
      rw [Int.natCast_mul] at o2
      rw [show ((4294967296 : Nat) : Int) = 4294967296 from rfl] at o2
      have y2 : (u : Int) < 4294967296 := by omega
      have HT : Hid (t = v / 2 ^ (8 * i)) := ht
      clear o1 hu hd' ht l1
      go_wp2_with fail
      with_reducible refine k3.mono ?_
      rintro e w3 ⟨rfl, P3, F3⟩
      have HP3 : Hid (PM w3 S2 p n (ops + 1) F1) := P3
      have HK3 : Hid (Kp w w3) := F3.kp HK.out HS.out
      clear k3 P3 F3 HP HK
      go_wp2
      go_roundg i
      case measure => omega
      case rel => exact ⟨i, ops + 1, by rw [HT.out], by go_num, by omega, by omega, by omega, by omega, HP3, HK3⟩
    · have e0 : r' = 0 := by omega
      subst e0
      rw [Nat.mul_zero, Nat.pow_zero, Nat.div_one]
      have k3 := pget_ok HP.out fr HE.out.2.2.2.2.2.2.2.2.1
      go_wp2_with fail
      with_reducible refine k3.mono ?_
      rintro e w3 ⟨rfl, R3, K3⟩
      have P3 := HP.out.kp K3
      have k4 := pset_ok P3 ot HE.out.2.2.2.2.2.2.2.2.2.1 wr.heap.size 0 4096 (F1 fr) R3.lt (R3.bs (by rw [HF.out]; exact putF_byte z0_byte _ _ _)).cells (by rw [HF.out]; exact putF_byte z0_byte _ _ _)
      have HK3 : Hid (Kp w w3) := HK.out.trans K3
      clear k3 R3 K3 P3 HP HK
      go_wp2_with fail
      with_reducible refine k4.mono ?_
      rintro e w4 ⟨rfl, S4, P4, F4, L4⟩
      have k5 := psame_any P4 fr ot
      have h := HE.out
      have hFf : putFr F1 ot (F1 fr) fr = putF z0 q 8 v := by rw [putFr_other _ _ _ _ (by omega)]; exact HF.out
      have hFo : putFr F1 ot (F1 fr) ot = putF z0 q 8 v := by rw [putFr_same]; exact HF.out
      rw [show sameF n (putFr F1 ot (F1 fr)) fr ot = true from by
        unfold sameF
        rw [(hasF_iff n fr).2 (by omega), (hasF_iff n ot).2 (by omega), show ((fr : Int)).toNat = fr from rfl, show ((ot : Int)).toNat = ot from rfl, hFf, hFo, alike_of (fun _ _ => rfl)]; rfl] at k5
      have HK4 : Hid (Kp w w4 ∧ ∀ k, S4 k → w.heap.size ≤ k) := ⟨F4.kp HK3.out HS.out, fun k hk => (L4 k hk).elim (HS.out k) (fun h => Nat.le_trans HK3.out.size h)⟩
      have HP4 : Hid (PM w4 S4 p n ops (putFr F1 ot (F1 fr))) := P4
      have HFo : Hid (putFr F1 ot (F1 fr) ot = putF z0 q 8 v) := hFo
      clear k4 P4 F4 L4 HK3 HS h hFf hFo
      go_wp2_with fail
      with_reducible refine k5.mono ?_
      rintro e w5 ⟨rfl, D5⟩
      have k6 := pzero_ok (HP4.out.kp D5.kp) fr HE.out.2.2.2.2.2.2.2.2.1
      have HK5 : Hid (Kp w w5 ∧ ∀ k, S4 k → w.heap.size ≤ k) := ⟨HK4.out.1.trans D5.kp, HK4.out.2⟩
      clear k5 D5 HP4 HK4
      go_wp2_with fail
      with_reducible refine k6.mono ?_
      rintro e w6 ⟨rfl, P6, F6⟩
      have hF6 : putFr (putFr F1 ot (F1 fr)) fr z0 ot = putF z0 q 8 v := by rw [putFr_other _ _ _ _ HE.out.2.2.2.2.2.2.2.2.2.2]; exact HFo.out
      have k7 : Calls Try.prog 11 #[.pointer (some ⟨p, 0, none⟩), .int .u64 ((ot : Int) * 4096 + q), .int .i64 8] w6 fun e w' => e = .returned (.tuple #[.int .u64 (v : Int), .int .i64 0]) ∧ PM w' S4 p n (ops + 1) (putFr (putFr F1 ot (F1 fr)) fr z0) ∧ Fr S4 w6 w' := by
        have h := HE.out
        have := pread_ok P6 (ot * 4096 + q) 8 (by omega) (chkP_in (by unfold Size; omega) (by omega) (by omega)) (by omega)
        rw [show (ot * 4096 + q) / 4096 = ot by omega, show (ot * 4096 + q) % 4096 = q by omega, hF6, numb_whole z0 q v h.2.2.2.2.2.1, show ((ot * 4096 + q : Nat) : Int) = (ot : Int) * 4096 + q by omega] at this
        exact this
      have HK6 : Hid (Kp w w6 ∧ ∀ k, S4 k → w.heap.size ≤ k) := ⟨F6.kp HK5.out.1 HK5.out.2, HK5.out.2⟩
      have HF6 : Hid (putFr (putFr F1 ot (F1 fr)) fr z0 ot = putF z0 q 8 v) := hF6
      clear k6 P6 F6 HK5 hF6
      go_wp2_with fail
      with_reducible refine k7.mono ?_
      rintro e w7 ⟨rfl, P7, F7⟩
      have HP7 : Hid (PM w7 S4 p n (ops + 1) (putFr (putFr F1 ot (F1 fr)) fr z0)) := P7
      have HK7 : Hid (Kp w w7) := F7.kp HK6.out.1 HK6.out.2
      clear k7 P7 F7 HK6
      go_wp2_with fail
      with_reducible refine (ptold_any _).mono ?_
      rintro e w8 ⟨rfl, K8⟩
      have P8 := HP7.out.kp K8
      have k8 := pclear_any P8 fr (wf_nat (by have := HE.out; omega))
      have k9 := pclear_any P8 ot (wf_nat (by have := HE.out; omega))
      rw [show clearF n (putFr (putFr F1 ot (F1 fr)) fr z0) fr = true from by
        unfold clearF
        rw [(hasF_iff n fr).2 (by have := HE.out; omega), show ((fr : Int)).toNat = fr from rfl, putFr_same, alike_of (fun _ _ => rfl)]; rfl] at k8
      rw [show clearF n (putFr (putFr F1 ot (F1 fr)) fr z0) ot = decide (v = 0) from by
        have h := HE.out
        unfold clearF
        rw [(hasF_iff n ot).2 (by omega), show ((ot : Int)).toNat = ot from rfl, HF6.out, putF_zero_iff q v (by omega) h.2.2.2.2.2.1]; rfl] at k9
      have HK8 : Hid (Kp w w8) := HK7.out.trans K8
      clear P8 HP7 HK7 K8 HF6
      by_cases ev : v = 0
      · rw [decide_eq_true ev] at k9
        have ev' : (v : Int) = 0 := by omega
        go_wp2_with (first | (go_at_call 20; with_reducible refine k8.mono ?_; rintro e w' ⟨rfl, rfl⟩) | (go_at_call 20; with_reducible refine k9.mono ?_; rintro e w' ⟨rfl, rfl⟩))
        go_ret
        exact ⟨rfl, HK8.out⟩
      · rw [decide_eq_false ev] at k9
        have ev' : ((v : Int) == 0) = false := by rw [beq_eq_false_iff_ne]; omega
        go_wp2_with (first | (go_at_call 20; with_reducible refine k8.mono ?_; rintro e w' ⟨rfl, rfl⟩) | (go_at_call 20; with_reducible refine k9.mono ?_; rintro e w' ⟨rfl, rfl⟩))
        go_ret
        exact ⟨rfl, HK8.out⟩

set_option maxHeartbeats 4000000 in
set_option maxRecDepth 100000 in
theorem keeps_8 (frames k : Int) (at0 v m n E r a fr q ot : Nat) (w : World) (hm : bits .and .i64 frames 1048573 = (m : Int)) (y0 : 2 + (m : Int) = (n : Int)) (hn : 2 ≤ n ∧ n ≤ 1048576) (hk : bits .and .i64 k 3 = 3) (hE : E = n * 4096) (hr : r = at0 % E) (hd : bits .andNot .u64 (r : Int) 7 = (a : Int)) (h8 : a % 8 = 0) (ha : a < E) (hv : v < 18446744073709551616) (hfr : fr = a / 4096) (hq : q = a % 4096) (hot : ot = (fr + 1) % n) :
    Calls Try.prog 4 #[.int .i64 frames, .int .u64 (at0 : Int), .int .i64 k, .int .u64 (v : Int)] w fun e w' => e = .returned (.bool true) ∧ Kp w w' := by
  have k1 := new_ok n w (by omega) hn.2
  have z1 : (n : Int) ≤ 1048576 := by omega
  have hfn : fr < n := by omega
  have hno : ot < n ∧ ot ≠ fr := by
    by_cases c : fr + 1 = n
    · rw [c, Nat.mod_self] at hot; omega
    · rw [Nat.mod_eq_of_lt (by omega)] at hot; omega
  have z8 : ((fr : Int) + 1) % n = (ot : Int) := by rw [hot]; simp
  have HE : Hid (E = n * 4096 ∧ 2 ≤ n ∧ n ≤ 1048576 ∧ a % 8 = 0 ∧ a < E ∧ v < 18446744073709551616 ∧ fr = a / 4096 ∧ q = a % 4096 ∧ fr < n ∧ ot < n ∧ ot ≠ fr) := ⟨hE, hn.1, hn.2, h8, ha, hv, hfr, hq, hfn, hno⟩
  have z3 : (n : Int) * 4096 = (E : Int) := by omega
  have z4 : (8192 : Int) ≤ E := by omega
  have z5 : (E : Int) ≤ 4294967296 := by omega
  have z6 : (at0 : Int) % E = (r : Int) := by omega
  have z7 : (a : Int) < E := by omega
  have z9 : (a : Int) / 4096 = (fr : Int) := by omega
  have z10 : (a : Int) % 4096 = (q : Int) := by omega
  have z11 : (fr : Int) < n := by omega
  have z12 : (ot : Int) < n := by omega
  have z13 : (2 : Int) ≤ n := by omega
  have z14 : (q : Int) < 4096 := by omega
  clear hE hn hr h8 ha hv hfr hq hot hfn hno
  go_enter Try.func4, Try.ntmps4
  go_wp2_with fail
  with_reducible refine k1.mono ?_
  rintro e w1 ⟨p, S, rfl, P1, K1, H1⟩
  clear k1
  have k2 : Calls Try.prog 9 #[.pointer (some ⟨p, 0, none⟩), .int .u64 (a : Int), .int .i64 8, .int .u64 (v : Int)] w1 fun e w' => e = .returned (.int .i64 0) ∧ ∃ S', PM w' S' p n 1 (putFr (fun _ => z0) fr (putF z0 q 8 v)) ∧ Fr S w1 w' ∧ Less S S' w1 := by
    have h := HE.out
    have := pwrite_ok P1 a 8 v (by omega) (chkP_in (by unfold Size; omega) (by omega) (by omega)) (by omega) (by omega)
    rw [← h.2.2.2.2.2.2.1, ← h.2.2.2.2.2.2.2.1] at this
    exact this
  have HK : Hid (Kp w w1 ∧ ∀ k, S k → w.heap.size ≤ k) := ⟨K1, H1⟩
  clear P1 K1 H1
  go_wp2_with fail
  with_reducible refine k2.mono ?_
  rintro e w2 ⟨rfl, S2, P2, F2, L2⟩
  clear k2
  have HK2 : Hid (Kp w w2 ∧ ∀ k, S2 k → w.heap.size ≤ k) := ⟨F2.kp HK.out.1 HK.out.2, fun k hk => (L2 k hk).elim (HK.out.2 k) (fun h => Nat.le_trans HK.out.1.size h)⟩
  obtain ⟨F1, hF1⟩ : ∃ F1, F1 = putFr (fun _ => z0) fr (putF z0 q 8 v) := ⟨_, rfl⟩
  rw [← hF1] at P2
  have HP2 : Hid (PM w2 S2 p n 1 F1) := P2
  have HF : Hid (F1 fr = putF z0 q 8 v) := (show F1 fr = putF z0 q 8 v by rw [hF1, putFr_same])
  have HS : Hid (∀ k, S2 k → w.heap.size ≤ k) := HK2.out.2
  clear P2 F2 L2 HK hF1
  go_wp2_with fail
  go_loopg [14, 15] 9 (fun g v14 v15 wr => ∃ r' ops : Nat, v14 = .int .u64 ((v / 2 ^ (8 * r') : Nat) : Int) ∧ v15 = .int .i64 ((r' : Int) - 8) ∧ r' ≤ 8 ∧ r' % 8 = 0 ∧ r' ≤ g ∧ ops + r' ≤ 9 ∧ Hid (PM wr S2 p n ops F1) ∧ Hid (Kp w wr))
  case atStart => exact ⟨8, 1, by rw [Nat.div_eq_of_lt HE.out.2.2.2.2.2.1]; rfl, by go_num, by omega, by omega, by omega, by omega, HP2, HK2.out.1⟩
  case round =>
    clear HP2 HK2
    obtain ⟨r', ops, rfl, rfl, h1, h2, hg, h4, HP, HK⟩ := hrel
    by_cases hlt : 8 ≤ r'
    · obtain ⟨i, rfl⟩ : ∃ i, r' = i + 8 := ⟨r' - 8, by omega⟩
      rw [show ((i + 8 : Nat) : Int) - 8 = (i : Int) by omega]
      have y1 : (i : Int) ≤ 8 := by omega
      have k3 : Calls Try.prog 11 #[.pointer (some ⟨p, 0, none⟩), .int .u64 ((a : Int) + i), .int .i64 8] wr fun e w' => e = .returned (.tuple #[.int .u64 ((v / 2 ^ (8 * i) % 2 ^ (8 * 8) : Nat) : Int), .int .i64 0]) ∧ PM w' S2 p n (ops + 1) F1 ∧ Fr S2 wr w' := by
        have h := HE.out
        have := pread_ok HP.out (a + i) 8 (by omega) (chkP_in (by unfold Size; omega) (by omega) (by omega)) (by omega)
        rw [show (a + i) / 4096 = fr by omega, show (a + i) % 4096 = q + i by omega, HF.out, numb_in z0 q 8 v (q + i) (by omega) 8 (by omega), show q + i - q = i by omega, show ((a + i : Nat) : Int) = (a : Int) + i by omega] at this
        exact this
      have hi : i = 0 := by omega
      subst hi
      rw [show v / 2 ^ (8 * 0) % 2 ^ (8 * 8) = v by rw [Nat.mul_zero, Nat.pow_zero, Nat.div_one]; exact Nat.mod_eq_of_lt HE.out.2.2.2.2.2.1] at k3
      have o2 : bits .or .u64 0 (v : Int) = (v : Int) := by
        have := u64_or_nat 0 v (by decide) HE.out.2.2.2.2.2.1
        rw [Nat.zero_or] at this
        exact this
      rw [show (((0 : Nat) : Int)) = 0 from rfl, Int.add_zero] at k3
      rw [show (((0 : Nat) : Int)) = 0 from rfl]
      generalize v / 2 ^ (8 * (0 + 8)) = u
      go_wp2_with fail
      with_reducible refine k3.mono ?_
      rintro e w3 ⟨rfl, P3, F3⟩
      have HP3 : Hid (PM w3 S2 p n (ops + 1) F1) := P3
      have HK3 : Hid (Kp w w3) := F3.kp HK.out HS.out
      clear k3 P3 F3 HP HK
      go_wp2
      go_roundg 0
      case measure => omega
      case rel => exact ⟨0, ops + 1, by rw [Nat.mul_zero, Nat.pow_zero, Nat.div_one], by go_num, by omega, by omega, by omega, by omega, HP3, HK3⟩
    · have e0 : r' = 0 := by omega
      subst e0
      rw [Nat.mul_zero, Nat.pow_zero, Nat.div_one]
      have k3 := pget_ok HP.out fr HE.out.2.2.2.2.2.2.2.2.1
      go_wp2_with fail
      with_reducible refine k3.mono ?_
      rintro e w3 ⟨rfl, R3, K3⟩
      have P3 := HP.out.kp K3
      have k4 := pset_ok P3 ot HE.out.2.2.2.2.2.2.2.2.2.1 wr.heap.size 0 4096 (F1 fr) R3.lt (R3.bs (by rw [HF.out]; exact putF_byte z0_byte _ _ _)).cells (by rw [HF.out]; exact putF_byte z0_byte _ _ _)
      have HK3 : Hid (Kp w w3) := HK.out.trans K3
      clear k3 R3 K3 P3 HP HK
      go_wp2_with fail
      with_reducible refine k4.mono ?_
      rintro e w4 ⟨rfl, S4, P4, F4, L4⟩
      have k5 := psame_any P4 fr ot
      have h := HE.out
      have hFf : putFr F1 ot (F1 fr) fr = putF z0 q 8 v := by rw [putFr_other _ _ _ _ (by omega)]; exact HF.out
      have hFo : putFr F1 ot (F1 fr) ot = putF z0 q 8 v := by rw [putFr_same]; exact HF.out
      rw [show sameF n (putFr F1 ot (F1 fr)) fr ot = true from by
        unfold sameF
        rw [(hasF_iff n fr).2 (by omega), (hasF_iff n ot).2 (by omega), show ((fr : Int)).toNat = fr from rfl, show ((ot : Int)).toNat = ot from rfl, hFf, hFo, alike_of (fun _ _ => rfl)]; rfl] at k5
      have HK4 : Hid (Kp w w4 ∧ ∀ k, S4 k → w.heap.size ≤ k) := ⟨F4.kp HK3.out HS.out, fun k hk => (L4 k hk).elim (HS.out k) (fun h => Nat.le_trans HK3.out.size h)⟩
      have HP4 : Hid (PM w4 S4 p n ops (putFr F1 ot (F1 fr))) := P4
      have HFo : Hid (putFr F1 ot (F1 fr) ot = putF z0 q 8 v) := hFo
      clear k4 P4 F4 L4 HK3 HS h hFf hFo
      go_wp2_with fail
      with_reducible refine k5.mono ?_
      rintro e w5 ⟨rfl, D5⟩
      have k6 := pzero_ok (HP4.out.kp D5.kp) fr HE.out.2.2.2.2.2.2.2.2.1
      have HK5 : Hid (Kp w w5 ∧ ∀ k, S4 k → w.heap.size ≤ k) := ⟨HK4.out.1.trans D5.kp, HK4.out.2⟩
      clear k5 D5 HP4 HK4
      go_wp2_with fail
      with_reducible refine k6.mono ?_
      rintro e w6 ⟨rfl, P6, F6⟩
      have hF6 : putFr (putFr F1 ot (F1 fr)) fr z0 ot = putF z0 q 8 v := by rw [putFr_other _ _ _ _ HE.out.2.2.2.2.2.2.2.2.2.2]; exact HFo.out
      have k7 : Calls Try.prog 11 #[.pointer (some ⟨p, 0, none⟩), .int .u64 ((ot : Int) * 4096 + q), .int .i64 8] w6 fun e w' => e = .returned (.tuple #[.int .u64 (v : Int), .int .i64 0]) ∧ PM w' S4 p n (ops + 1) (putFr (putFr F1 ot (F1 fr)) fr z0) ∧ Fr S4 w6 w' := by
        have h := HE.out
        have := pread_ok P6 (ot * 4096 + q) 8 (by omega) (chkP_in (by unfold Size; omega) (by omega) (by omega)) (by omega)
        rw [show (ot * 4096 + q) / 4096 = ot by omega, show (ot * 4096 + q) % 4096 = q by omega, hF6, numb_whole z0 q v h.2.2.2.2.2.1, show ((ot * 4096 + q : Nat) : Int) = (ot : Int) * 4096 + q by omega] at this
        exact this
      have HK6 : Hid (Kp w w6 ∧ ∀ k, S4 k → w.heap.size ≤ k) := ⟨F6.kp HK5.out.1 HK5.out.2, HK5.out.2⟩
      have HF6 : Hid (putFr (putFr F1 ot (F1 fr)) fr z0 ot = putF z0 q 8 v) := hF6
      clear k6 P6 F6 HK5 hF6
      go_wp2_with fail
      with_reducible refine k7.mono ?_
      rintro e w7 ⟨rfl, P7, F7⟩
      have HP7 : Hid (PM w7 S4 p n (ops + 1) (putFr (putFr F1 ot (F1 fr)) fr z0)) := P7
      have HK7 : Hid (Kp w w7) := F7.kp HK6.out.1 HK6.out.2
      clear k7 P7 F7 HK6
      go_wp2_with fail
      with_reducible refine (ptold_any _).mono ?_
      rintro e w8 ⟨rfl, K8⟩
      have P8 := HP7.out.kp K8
      have k8 := pclear_any P8 fr (wf_nat (by have := HE.out; omega))
      have k9 := pclear_any P8 ot (wf_nat (by have := HE.out; omega))
      rw [show clearF n (putFr (putFr F1 ot (F1 fr)) fr z0) fr = true from by
        unfold clearF
        rw [(hasF_iff n fr).2 (by have := HE.out; omega), show ((fr : Int)).toNat = fr from rfl, putFr_same, alike_of (fun _ _ => rfl)]; rfl] at k8
      rw [show clearF n (putFr (putFr F1 ot (F1 fr)) fr z0) ot = decide (v = 0) from by
        have h := HE.out
        unfold clearF
        rw [(hasF_iff n ot).2 (by omega), show ((ot : Int)).toNat = ot from rfl, HF6.out, putF_zero_iff q v (by omega) h.2.2.2.2.2.1]; rfl] at k9
      have HK8 : Hid (Kp w w8) := HK7.out.trans K8
      clear P8 HP7 HK7 K8 HF6
      by_cases ev : v = 0
      · rw [decide_eq_true ev] at k9
        have ev' : (v : Int) = 0 := by omega
        go_wp2_with (first | (go_at_call 20; with_reducible refine k8.mono ?_; rintro e w' ⟨rfl, rfl⟩) | (go_at_call 20; with_reducible refine k9.mono ?_; rintro e w' ⟨rfl, rfl⟩))
        go_ret
        exact ⟨rfl, HK8.out⟩
      · rw [decide_eq_false ev] at k9
        have ev' : ((v : Int) == 0) = false := by rw [beq_eq_false_iff_ne]; omega
        go_wp2_with (first | (go_at_call 20; with_reducible refine k8.mono ?_; rintro e w' ⟨rfl, rfl⟩) | (go_at_call 20; with_reducible refine k9.mono ?_; rintro e w' ⟨rfl, rfl⟩))
        go_ret
        exact ⟨rfl, HK8.out⟩

theorem keeps_any (frames at0 k v : Int) (h1 : (Lit.int .u64 at0).wf = true) (h2 : (Lit.int .u64 v).wf = true) (w : World) :
    Calls Try.prog 4 #[.int .i64 frames, .int .u64 at0, .int .i64 k, .int .u64 v] w fun e w' => e = .returned (.bool true) ∧ Kp w w' := by
  have ho := wf_word h1
  have hv := wf_word h2
  obtain ⟨u, rfl⟩ : ∃ u : Nat, at0 = (u : Int) := ⟨at0.toNat, by omega⟩
  obtain ⟨x, rfl⟩ : ∃ x : Nat, v = (x : Int) := ⟨v.toNat, by omega⟩
  obtain ⟨m, hm, hm2⟩ := and_lim frames 1048573 (by decide)
  rw [show ((1048573 : Nat) : Int) = 1048573 from rfl] at hm
  have hk := mask2 k
  obtain ⟨r, hr⟩ : ∃ r, r = u % ((2 + m) * 4096) := ⟨_, rfl⟩
  have hl : r < (2 + m) * 4096 := by rw [hr]; exact Nat.mod_lt _ (by omega)
  have hd := down8 r (by omega)
  have c : k % 4 = 0 ∨ k % 4 = 1 ∨ k % 4 = 2 ∨ k % 4 = 3 := by omega
  rcases c with c | c | c | c <;> rw [c] at hk
  · exact keeps_1 frames k u x m (2 + m) _ r _ _ _ _ w hm (by omega) (by omega) hk rfl hr hd (by omega) (by omega) (by omega) rfl rfl rfl
  · exact keeps_2 frames k u x m (2 + m) _ r _ _ _ _ w hm (by omega) (by omega) hk rfl hr hd (by omega) (by omega) (by omega) rfl rfl rfl
  · exact keeps_4 frames k u x m (2 + m) _ r _ _ _ _ w hm (by omega) (by omega) hk rfl hr hd (by omega) (by omega) (by omega) rfl rfl rfl
  · exact keeps_8 frames k u x m (2 + m) _ r _ _ _ _ w hm (by omega) (by omega) hk rfl hr hd (by omega) (by omega) (by omega) rfl rfl rfl

end Go.Proofs.Ytndlkkacnpjlmaa
