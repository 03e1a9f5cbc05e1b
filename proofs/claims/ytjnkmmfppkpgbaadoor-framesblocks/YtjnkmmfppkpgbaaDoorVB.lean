/- FramesBlocks: the walk. -/
import Derived.Test.YtjnkmmfppkpgbaaDoorV7
namespace Go.Proofs.YtjnkmmfppkpgbaaDoor
open Go.RowKit Go.Maps
set_option maxRecDepth 10000

/-- Which were dropped by the first i. -/
def hit (t i d : Nat) : Bool := (List.range i).any fun j => decide ((j * 5 + t) % 512 = d)
theorem hit_iff (t i d : Nat) : hit t i d = true ↔ ∃ j, j < i ∧ (j * 5 + t) % 512 = d := by
  unfold hit
  rw [List.any_eq_true]
  constructor
  · rintro ⟨j, h1, h2⟩; exact ⟨j, List.mem_range.1 h1, of_decide_eq_true h2⟩
  · rintro ⟨j, h1, h2⟩; exact ⟨j, List.mem_range.2 h1, decide_eq_true h2⟩
theorem hit_not {t i : Nat} (hi : i < 512) : hit t i ((i * 5 + t) % 512) = false := by
  cases e : hit t i ((i * 5 + t) % 512)
  · rfl
  · obtain ⟨j, h1, h2⟩ := (hit_iff ..).1 e
    omega
theorem hit_succ (t i d : Nat) : hit t (i + 1) d = (hit t i d || decide ((i * 5 + t) % 512 = d)) := by
  apply Bool.eq_iff_iff.2
  rw [Bool.or_eq_true, hit_iff, hit_iff, decide_eq_true_eq]
  constructor
  · rintro ⟨j, h1, h2⟩
    by_cases e : j = i
    · subst e; exact .inr h2
    · exact .inl ⟨j, by omega, h2⟩
  · rintro (⟨j, h1, h2⟩ | h)
    · exact ⟨j, by omega, h2⟩
    · exact ⟨i, by omega, h⟩
theorem hit_all {t d : Nat} (ht : t < 512) (hd : d < 512) : hit t 512 d = true := (hit_iff ..).2 ⟨(205 * (d + 512 - t)) % 512, by omega, by omega⟩
/-- The counts behind the first i Drops. -/
def dC (t tw i : Nat) : Nat → Nat := fun y => if 512 ≤ y ∧ y < 1024 then (if hit t i (y - 512) then 0 else 1) + (if y = 512 + tw then 1 else 0) else 0
theorem dC_start {t tw : Nat} (htw : tw < 512) : refC (onR (fun _ => 0) 512 512) ((512 + tw : Nat) : Int) = dC t tw 0 := by
  have e : onR (fun _ => 0) 512 512 (512 + tw) = 1 := if_pos (by omega)
  unfold refC refO
  rw [cI_nat, e, if_pos (by decide), Int.toNat_natCast]
  funext y
  unfold dC putC
  by_cases c : 512 ≤ y ∧ y < 1024
  · rw [if_pos c, show hit t 0 (y - 512) = false from rfl]
    by_cases c2 : y = 512 + tw
    · rw [if_pos c2, if_pos c2]; rfl
    · rw [if_neg c2, if_neg c2]; exact if_pos (by omega)
  · rw [if_neg c, if_neg (by omega)]; exact if_neg (by omega)
theorem dC_of {t tw i d : Nat} (hd : d < 512) : dC t tw i (512 + d) = (if hit t i d then 0 else 1) + (if d = tw then 1 else 0) := by
  unfold dC
  rw [if_pos (by omega), show 512 + d - 512 = d by omega]
  by_cases c : d = tw
  · rw [if_pos c, if_pos (show 512 + d = 512 + tw by omega)]
  · rw [if_neg c, if_neg (show ¬ 512 + d = 512 + tw by omega)]
theorem dC_at {t tw i : Nat} (hi : i < 512) : dC t tw i (512 + (i * 5 + t) % 512) = if (i * 5 + t) % 512 = tw then 2 else 1 := by
  rw [dC_of (by omega), hit_not hi]
  by_cases c : (i * 5 + t) % 512 = tw
  · simp [c]
  · simp [c]
theorem dC_next {t tw i : Nat} (hi : i < 512) : dropC (dC t tw i) ((512 + (i * 5 + t) % 512 : Nat) : Int) = dC t tw (i + 1) := by
  have h1 : dC t tw i (512 + (i * 5 + t) % 512) ≠ 0 := by rw [dC_at hi]; split <;> omega
  unfold dropC
  rw [cI_nat, if_neg h1, Int.toNat_natCast]
  funext y
  unfold putC
  by_cases c : y = 512 + (i * 5 + t) % 512
  · subst c
    rw [if_pos rfl, dC_of (by omega), dC_of (by omega), hit_succ, hit_not hi, decide_eq_true rfl]
    simp
  · rw [if_neg c]
    unfold dC
    by_cases c2 : 512 ≤ y ∧ y < 1024
    · rw [if_pos c2, if_pos c2, hit_succ, decide_eq_false (show ¬ (i * 5 + t) % 512 = y - 512 by omega), Bool.or_false]
    · rw [if_neg c2, if_neg c2]
theorem dC_end {t tw : Nat} (ht : t < 512) (htw : tw < 512) : dC t tw 512 (512 + tw) = 1 ∧ dropC (dC t tw 512) ((512 + tw : Nat) : Int) = fun _ => 0 := by
  have h1 : dC t tw 512 (512 + tw) = 1 := by
    unfold dC
    rw [if_pos (by omega), show 512 + tw - 512 = tw by omega, hit_all ht htw, if_pos rfl, if_pos rfl]
  refine ⟨h1, ?_⟩
  unfold dropC
  rw [cI_nat, h1, if_neg (by decide), Int.toNat_natCast]
  funext y
  unfold putC
  by_cases c : y = 512 + tw
  · rw [if_pos c]
  · rw [if_neg c]
    unfold dC
    by_cases c2 : 512 ≤ y ∧ y < 1024
    · rw [if_pos c2, hit_all ht (by omega), if_pos rfl, if_neg c]
    · rw [if_neg c2]
/-- A block there is just when 1,024 frames are. -/
theorem blk_none {pool n : Nat} (h1 : 1 ≤ pool) (h2 : n < 1024) : TkR (fP pool n (fun _ => 0)) 9 none := fun a h3 h4 j hj => by
  have : a = 9 := by omega
  subst this
  have e1 := (fP_iff ..).1 (hj.1 (j * 512 + 511) (by omega))
  have e2 := (fP_iff ..).1 (hj.1 (j * 512) (by omega))
  omega
theorem blk_some {pool n : Nat} (h1 : 1 ≤ pool) (h2 : pool ≤ 64) (h3 : 1024 ≤ n) : TkR (fP pool n (fun _ => 0)) 9 (some 512) := by
  refine ⟨9, 1, ⟨by omega, by omega, ⟨fun k hk => (fP_iff ..).2 ⟨by omega, by omega, rfl⟩, .inl rfl⟩, fun a ha hb => by omega, fun j hj hr => ?_⟩, rfl⟩
  have e := (fP_iff ..).1 (hr.1 (j * 512) (by omega))
  omega

set_option maxHeartbeats 16000000 in
set_option maxRecDepth 1000000 in
theorem blocks_walk (a0 a1 a2 a3 : Int) (m0 r0 n m1 pool t tw q : Nat) (w : World) (T : TAB w)
    (e1 : bits .and .i64 a1 63 = (m1 : Int)) (e2 : 1 + (m1 : Int) = (pool : Int)) (e3 : bits .and .i64 a0 2047 = (m0 : Int)) (e4 : (m0 : Int).tmod 1088 = (r0 : Int)) (e5 : (pool : Int) + 512 + (r0 : Int) = (n : Int))
    (e6 : bits .and .i64 a2 511 = (t : Int)) (e7 : bits .and .i64 a3 511 = (tw : Int)) (e8 : (tw : Int).tmod 512 = (tw : Int)) (e9 : ((pool : Int) + 511).tdiv 512 = 1) (eA : 512 + (tw : Int) = (q : Int))
    (h1 : 1 ≤ pool) (h2 : pool ≤ 64) (h3 : 513 ≤ n) (h4 : n ≤ 1663) (ht : t < 512) (htw : tw < 512) :
    Calls Tryd.prog 5 #[.int .i64 a0, .int .i64 a1, .int .i64 a2, .int .i64 a3] w fun e w' => e = .returned (.bool true) ∧ Kp w w' := by
  have k1 := new_ok n w (by omega) (by omega)
  have HT : Hid (TAB w) := T
  have z1 : (n : Int) ≤ 1663 := by omega
  have z2 : (513 : Int) ≤ n := by omega
  have z3 : (1 : Int) ≤ pool := by omega
  have z4 : (pool : Int) ≤ 64 := by omega
  have z5 : (pool : Int) < n := by omega
  have z6 : (t : Int) < 512 := by omega
  have z7 : (tw : Int) < 512 := by omega
  clear T
  go_enter Tryd.func5, Tryd.ntmps5
  go_wp2_with fail
  with_reducible refine k1.mono ?_
  rintro e w1 ⟨pm, M, rfl, m, kk, mn⟩
  have k2 := knew_ok m kk HT.out mn pool h1 (by omega) (by omega)
  clear m kk mn k1 HT e1 e2 e3 e4 e5
  go_wp2_with fail
  with_reducible refine k2.mono ?_
  rintro e w2 ⟨⟨p, rfl, f2⟩, _⟩
  by_cases hn : n < 1024
  · have k3 := kblock_any f2 none (blk_none h1 hn)
    have y1 : (n : Int) < 1024 := by omega
    clear f2 k2 e6 e7 e8
    go_wp2_with fail
    with_reducible refine k3.mono ?_
    rintro e w3 ⟨rfl, f3, _⟩
    have kt := ftold_any w3 f3.tab
    have HK : Hid (Kp w w3) := f3.kp
    clear f3 k3
    simp only [gotX, gotE]
    go_wp2_with fail
    with_reducible refine kt.mono ?_
    rintro e w9 ⟨rfl, K9⟩
    have HK2 : Hid (Kp w w9) := HK.out.trans K9
    clear K9 kt HK
    go_wp2
    go_ret
    exact ⟨rfl, HK2.out⟩
  · have hn' : 1024 ≤ n := by omega
    have k3 := kblock_any f2 (some 512) (blk_some h1 h2 hn')
    have y1 : (1024 : Int) ≤ n := by omega
    clear f2 k2
    go_wp2_with fail
    with_reducible refine k3.mono ?_
    rintro e w3 ⟨rfl, f3, _⟩
    have k4 := kref_any f3 (q : Int) (WalkArith.wf_i64 (by omega))
    have F4 : Aside (∀ w', FK w (fun _ => False) w' p pm n pool 0 (gotB (fun _ => z0) (some 512) 512) (refC (gotC (fun _ => 0) (some 512) 512) (q : Int)) → Hid (∃ B, FK w (fun _ => False) w' p pm n pool 0 B (dC t tw 0))) := fun w' h => ⟨_, by rw [← dC_start htw, show ((512 + tw : Nat) : Int) = (q : Int) by omega]; exact h⟩
    clear f3 k3
    simp only [gotX, gotE]
    go_wp2_with fail
    with_reducible refine k4.mono ?_
    rintro e w4 ⟨rfl, f4, _⟩
    have I0 := F4.out w4 f4
    clear f4 F4 k4
    go_wp2_with fail
    go_loopg [16] 513 (fun g v16 wr => ∃ i : Nat, v16 = .int .i64 (i : Int) ∧ i ≤ 512 ∧ 513 - i ≤ g ∧ Hid (∃ B, FK w (fun _ => False) wr p pm n pool 0 B (dC t tw i)))
    case atStart => exact ⟨0, rfl, by omega, by omega, I0⟩
    case round =>
      clear I0
      obtain ⟨i, rfl, hi, hg, HI⟩ := hrel
      by_cases hlt : i < 512
      · have y2 : (i : Int) < 512 := by omega
        obtain ⟨B, f⟩ := HI.out
        obtain ⟨s, hs⟩ : ∃ s, s = i * 5 + t := ⟨_, rfl⟩
        obtain ⟨k, hk⟩ : ∃ k, k = 512 + (i * 5 + t) % 512 := ⟨_, rfl⟩
        have x1 : (i : Int) * 5 + (t : Int) = (s : Int) := by omega
        have x2 : (s : Int).tmod 512 = ((s % 512 : Nat) : Int) := by rw [Int.tmod_eq_emod_of_nonneg (by omega)]; omega
        have x3 : 512 + ((s % 512 : Nat) : Int) = (k : Int) := by omega
        have x6 : (k : Int) ≤ 1023 := by omega
        have k5 := kdrop_any f (k : Int) (WalkArith.wf_i64 (by omega))
        have ec : dC t tw i k = if (i * 5 + t) % 512 = tw then 2 else 1 := by rw [hk]; exact dC_at hlt
        unfold dropN dropE at k5
        rw [show dropC (dC t tw i) (k : Int) = dC t tw (i + 1) by rw [hk]; exact dC_next hlt, cI_nat, ec] at k5
        clear f HI
        by_cases c : (i * 5 + t) % 512 = tw
        · rw [if_pos c, if_neg (by decide)] at k5
          have x4 : (k : Int) = q := by omega
          have x5 : k = q := by omega
          subst x5
          clear ec c x4 hs hk
          generalize s % 512 = u at *
          rw [show ((2 - 1 : Nat) : Int) = 1 from rfl] at k5
          go_wp2_with fail
          with_reducible refine k5.mono ?_
          rintro e w5 ⟨rfl, f5, _⟩
          have HI2 : Hid (∃ B, FK w (fun _ => False) w5 p pm n pool 0 B (dC t tw (i + 1))) := ⟨_, f5⟩
          clear f5 k5
          go_wp2
          go_roundg (513 - (i + 1))
          case measure => omega
          case rel => exact ⟨i + 1, by go_num, by omega, by omega, HI2⟩
        · rw [if_neg c, if_neg (by decide)] at k5
          have x4 : ¬ (k : Int) = q := by omega
          have x4n : ¬ k = q := by omega
          clear ec c hs hk
          generalize s % 512 = u at *
          rw [show ((1 - 1 : Nat) : Int) = 0 from rfl] at k5
          go_wp2_with fail
          with_reducible refine k5.mono ?_
          rintro e w5 ⟨rfl, f5, _⟩
          have HI2 : Hid (∃ B, FK w (fun _ => False) w5 p pm n pool 0 B (dC t tw (i + 1))) := ⟨_, f5⟩
          clear f5 k5
          have b1 : ((k : Int) != (q : Int)) = true := bne_iff_ne.2 (by omega)
          have b2 : ((k : Int) == (q : Int)) = false := beq_false_of_ne (by omega)
          have b3 : (k == q) = false := by simpa using x4n
          have b4 : (k != q) = true := by simpa using x4n
          have b5 : decide (k = q) = false := decide_eq_false x4n
          have b6 : decide ((k : Int) = (q : Int)) = false := decide_eq_false (by omega)
          go_wp2
          go_roundg (513 - (i + 1))
          case measure => omega
          case rel => exact ⟨i + 1, by go_num, by omega, by omega, HI2⟩
      · have ei : i = 512 := by omega
        subst ei
        obtain ⟨B, f⟩ := HI.out
        obtain ⟨d1, d2⟩ := dC_end ht htw
        have k5 := kdrop_any f (q : Int) (WalkArith.wf_i64 (by omega))
        unfold dropN dropE at k5
        rw [show (q : Int) = ((512 + tw : Nat) : Int) by omega, d2, cI_nat, d1, if_neg (by decide), show ((512 + tw : Nat) : Int) = (q : Int) by omega] at k5
        rw [show ((1 - 1 : Nat) : Int) = 0 from rfl] at k5
        rw [show ((512 : Nat) : Int) = 512 from rfl]
        clear f HI d1 d2
        go_wp2_with fail
        with_reducible refine k5.mono ?_
        rintro e w5 ⟨rfl, f5, _⟩
        have k6 := kfree_any f5
        rw [cnt_P (show pool ≤ n by omega)] at k6
        obtain ⟨ct, hct⟩ : ∃ ct, ct = cnt (fT pool (fun _ => 0)) pool := ⟨_, rfl⟩
        rw [← hct] at k6
        have F5 : Hid (∃ B, FK w (fun _ => False) w5 p pm n pool 0 B (fun _ => 0)) := ⟨_, f5⟩
        clear f5 k5 hct
        go_wp2_with fail
        with_reducible refine k6.mono ?_
        rintro e w6 ⟨rfl, D6⟩
        obtain ⟨B6, f6⟩ := F5.out
        have k7 := kblock_any (f6.kps D6.kp) (some 512) (blk_some h1 h2 hn')
        clear f6 F5 D6 k6
        go_wp2_with fail
        with_reducible refine k7.mono ?_
        rintro e w7 ⟨rfl, f7, _⟩
        have kt := ftold_any w7 f7.tab
        have F7 : Hid (FK w (fun _ => False) w7 p pm n pool 0 (gotB B6 (some 512) 512) (onR (fun _ => 0) 512 512)) := f7
        have y5 : ((n - pool : Nat) : Int) = (n : Int) - pool := by omega
        rw [y5]
        clear f7 k7
        simp only [gotX, gotE]
        go_wp2_with fail
        with_reducible refine kt.mono ?_
        rintro e w8 ⟨rfl, K8⟩
        have k8 := kcount_any (F7.out.kps K8) 1023 (by decide)
        rw [show cI (onR (fun _ => 0) 512 512) 1023 = 1 from by decide +kernel, show ((1 : Nat) : Int) = 1 from rfl] at k8
        have HK : Hid (Kp w w8) := (F7.out.kps K8).kp
        clear F7 K8 kt
        go_wp2_with (go_at_call 26; with_reducible refine k8.mono ?_; rintro e w' ⟨rfl, rfl⟩)
        go_ret
        exact ⟨rfl, HK.out⟩
theorem blocks_any (a0 a1 a2 a3 : Int) (w : World) (T : TAB w) :
    Calls Tryd.prog 5 #[.int .i64 a0, .int .i64 a1, .int .i64 a2, .int .i64 a3] w fun e w' => e = .returned (.bool true) ∧ Kp w w' := by
  obtain ⟨m0, e1, l1⟩ := and_lim a0 2047 (by omega)
  obtain ⟨m1, e2, l2⟩ := and_lim a1 63 (by omega)
  obtain ⟨t, e3, l3⟩ := and_lim a2 511 (by omega)
  obtain ⟨tw, e4, l4⟩ := and_lim a3 511 (by omega)
  refine blocks_walk a0 a1 a2 a3 m0 (m0 % 1088) (1 + m1 + 512 + m0 % 1088) m1 (1 + m1) t tw (512 + tw) w T e2 (by omega) e1 ?_ (by omega) e3 e4 ?_ ?_ (by omega) (by omega) (by omega) (by omega) (by omega) (by omega) (by omega)
  · rw [Int.tmod_eq_emod_of_nonneg (by omega)]; omega
  · rw [Int.tmod_eq_emod_of_nonneg (by omega)]; omega
  · rw [Int.tdiv_eq_ediv_of_nonneg (by omega)]; omega
end Go.Proofs.YtjnkmmfppkpgbaaDoor
