/- Joined: R30, R31, R42, R32. -/
import Derived.Test.YtanlcmdnhhdhaaaGreatDoorJ26
import Derived.Test.YtanlcmdnhhdhaaaGreatDoorJ25
import Derived.Test.YtanlcmdnhhdhaaaGreatDoorJ22
/- stage2: told. -/
namespace Go.Proofs.YtanlcmdnhhdhaaaGreatDoor
open Go.RowKit
set_option maxRecDepth 10000

theorem cntT_all (pool : Nat) : cnt (fT pool (fun _ => 0)) pool = pool := by
  have := cnt_step (F := fT pool (fun _ => 0)) (a := 0) (b := pool) (Nat.zero_le _) (fun k _ h => (fT_iff ..).2 ⟨h, rfl⟩)
  rw [this]; show 0 + (pool - 0) = pool; omega
theorem lvG_eN (page : Nat) : lvG eN page = 0 := by unfold lvG; rw [if_pos (by show ¬ (0 : Int) = 1; decide)]
theorem enG_eN (page : Nat) : enG eN page = dN := rfl
/-- No leaf: the root alone. -/
theorem TG.bare {M : Nat → Nat → Nat} {C : Nat → Nat} {pool root : Nat} {Z : Nat → Bool} {E : Nat → Nat → DV} (h : TG M C pool Z root E) (ne : NE root E (fun _ _ => False)) (hl : ∀ l j, l ≤ 3 → lfD E l j = dN) : (tabsA root E).length = 1 := by
  have noT : ∀ n l j, l + n = 3 → (E l j).k = 0 := fun n => by
    induction n with
    | zero =>
      intro l j e
      obtain rfl : l = 3 := by omega
      have := hl 3 j (by omega)
      rw [h.lf3] at this
      rw [this]; rfl
    | succ n ih =>
      intro l j e
      by_cases c : (E l j).k = 1
      · obtain ⟨i, hi, hk⟩ := ne (l + 1) j ((E l j).a / 4096) (by omega) (by omega) (fun c => c) (by rw [tbl_succ, if_pos c])
        exact absurd (ih (l + 1) _ (by omega)) hk
      · have := hl l j (by omega)
        unfold lfD at this
        rw [if_neg c] at this
        rw [this]; rfl
  have e : trv E visT deepA 4 0 0 = [] := by
    rw [List.eq_nil_iff_forall_not_mem]
    intro x hx
    obtain ⟨m, e, a1, a2, _⟩ := (mem_trv h x).1 hx
    exact a2 (noT (3 - m) m e (by omega))
  unfold tabsA
  rw [h.trvT, e]
  rfl
section
variable {W w w' : World} {X : Nat → Prop} {b : Nat} {r q x : Bool}
theorem PX.frO (h : PX w b r q x) (k : Fr (Out W X) w w') (hb : X b) : PX w' b r q x := (k.block b h.lt (fun c => c.2 hb)).trans h
theorem LB.frO {v : LV} (h : LB w b v) (k : Fr (Out W X) w w') (hb : X b) : LB w' b v := h.fr k (fun c => c.2 hb)
end
theorem root_gone {w : World} {b : Nat} (h : TXn w b) : Calls Tryz.prog 15 #[.pointer (some ⟨b, 0, none⟩)] w fun e w' => e = .returned (.int .u64 0) ∧ w' = w := by
  have c1 := h.c1
  clear h
  go_enter Tryz.func15, Tryz.ntmps15
  go_wp2
  go_ret
  exact ⟨rfl, rfl⟩
set_option maxHeartbeats 8000000 in
theorem told_any (w : World) (T : TAB w) : Calls Tryz.prog 12 #[] w fun e w' => e = .returned (.bool true) ∧ Kp w w' := by
  have k1 := begun_any 8 w T (by omega) (by omega)
  rw [show ((8 : Nat) : Int) = 8 from rfl] at k1
  have q3 : ∀ p (w : World), (binOp .eql 27 (.pointer (some ⟨p, 0, none⟩)) (.pointer none)).run Tryz.prog w = .ok (.bool false) w := fun p w => by kernel_rfl
  clear T
  go_enter Tryz.func12, Tryz.ntmps12
  go_wp2_with fail
  with_reducible refine k1.mono ?_
  rintro e w1 ⟨pm, p, M, rfl, f1⟩
  have kn := tnew_nil
  obtain ⟨y, hy⟩ := tk_there (F := fT 8 (fun _ => 0)) (hi := 8) (by rw [cntT_all]; omega)
  have k2 := tnew_ok (Z := fun _ => false) f1 y hy (fun x => ⟨(fun c => by cases c), fun c => absurd rfl c⟩)
  have fy := hy.free
  have HC : Hid (cnt (fT 8 (putC (fun _ => 0) y 1)) 8 + 1 = 8) := by have := cnt_take (C := fun _ => 0) fy.1 rfl; rw [cntT_all] at this; exact this
  clear k1 f1 hy fy
  go_wp2_with fail
  with_reducible refine (kn _).mono ?_
  rintro e w' ⟨rfl, rfl⟩
  go_wp2_with fail
  with_reducible refine k2.mono ?_
  rintro e w3 ⟨⟨bt, rfl, t3, hbt⟩, r3⟩
  have k4 : Kp w3 (w3.alloc (.cells #[.bool true, .bool true, .bool false] 39)) := (Kp.refl w3).alloc _
  have t4 := t3.more k4 w3.heap.size (Nat.le_refl _) (by simp)
  have P4 : PX (w3.alloc (.cells #[.bool true, .bool true, .bool false] 39)) w3.heap.size true true false := heap_alloc_new w3 _
  have kN := need_any t4 0 (by omega) (by omega)
  rw [show needN eN 0 = 3 from by unfold needN; rw [enG_eN, lvG_eN, if_neg (by decide)], show ((3 : Nat) : Int) = 3 from rfl, show ((0 : Nat) : Int) = 0 from rfl] at kN
  have HP : Hid (PX (w3.alloc (.cells #[.bool true, .bool true, .bool false] 39)) w3.heap.size true true false) := P4
  clear k2 t3 r3 kn t4 k4 P4 hbt
  generalize hbp : w3.heap.size = bp at *
  go_wp2_with fail
  with_reducible refine kN.mono ?_
  rintro e w5 ⟨rfl, t5, r5⟩
  have P5 := HP.out.frO r5 (.inr rfl)
  have kM := map_any t5 (NE.made y) 0 9 true true false 0 (by omega)
  have eR : mapR 2100 8 (putC (fun _ => 0) y 1) eN 0 9 true true 0 = 0 := by
    unfold mapR plR
    rw [if_neg (by decide), if_neg (by decide), enG_eN, lvG_eN, if_neg (by simp [dN]), if_neg (by have := HC.out; omega)]
  rw [eR, show ((0 : Nat) : Int) = 0 from rfl] at kM
  have HP5 : Hid (PX w5 bp true true false) := P5
  have p0 := P5.c0
  have p1 := P5.c1
  have p2 := P5.c2
  clear kN t5 r5 P5 HP
  go_wp2_with fail
  with_reducible refine kM.mono ?_
  rintro e w6 ⟨rfl, C6, E6, a6, _, b6⟩
  obtain ⟨n6, l6⟩ := b6 rfl
  obtain ⟨⟨M6, t6, _⟩, ne6, r6⟩ := a6
  have P6 := HP5.out.frO r6 (.inr rfl)
  have lf3 : lfD E6 3 0 = ⟨3, 36864, true, true, false, 0⟩ := by rw [l6 3 0 (by omega), if_pos ⟨rfl, rfl⟩]; rfl
  have pg := t6.tg.pg (page := 0)
  have pd : pgD E6 0 = ⟨3, 36864, true, true, false, 0⟩ := by unfold pgD; rw [lf3, if_pos (by decide)]
  have pl : pgL E6 0 = 3 := by unfold pgL; rw [lf3, if_pos (by decide)]
  have ek : (enG E6 0).k ≠ 0 := pg.1.2 (by rw [pd]; decide)
  obtain ⟨een, elv⟩ := pg.2 ek
  rw [pd] at een
  rw [pl] at elv
  have kG := get_any t6 0 (by omega) (by omega)
  have eg : getN E6 0 = ⟨0, 9, true, true, false, 0, 3⟩ := by unfold getN; rw [if_pos ek, een, elv]; rfl
  rw [eg, decide_eq_true ek, show ((0 : Nat) : Int) = 0 from rfl] at kG
  have HG : Hid ((enG E6 0).k = 3 ∧ (enG E6 0).a / 4096 = 9 ∧ lvG E6 0 = 3 ∧ NE y E6 (fun _ _ => False) ∧ cnt (fT 8 C6) 8 + (3 - lvG eN 0) = cnt (fT 8 (putC (fun _ => 0) y 1)) 8 ∧ ∀ a b, a ≤ 3 → lfD E6 a b = if a = 3 ∧ b = qn 0 3 then ⟨3, Int.toNat 9 * 4096, true, true, false, 0⟩ else lfD eN a b) := ⟨by rw [een], by rw [een]; rfl, elv, ne6, n6, l6⟩
  have HP6 : Hid (PX w6 bp true true false) := P6
  clear kM n6 l6 t6 ne6 r6 P6 lf3 pg pd pl ek een elv eg eR p0 p1 p2 HP5 b6
  go_wp2_with fail
  with_reducible refine kG.mono ?_
  rintro e w7 ⟨rfl, t7, r7⟩
  have kb : Kp w7 (w7.alloc (.cells #[.int .u64 0, .int .i64 9, .bool true, .bool true, .bool false, .int .i64 0, .int .i64 3] 58)) := (Kp.refl w7).alloc _
  have t8 := t7.more kb w7.heap.size (Nat.le_refl _) (by simp)
  have P8 := (HP6.out.frO r7 (.inr rfl)).kp kb
  have B8 : LB (w7.alloc (.cells #[.int .u64 0, .int .i64 9, .bool true, .bool true, .bool false, .int .i64 0, .int .i64 3] 58)) w7.heap.size ⟨0, 9, true, true, false, 0, 3⟩ := heap_alloc_new w7 _
  have kT := tcount_any t8
  have e4 : cnt (ownC C6 (fun _ => false)) 8 = 4 := by
    have := cnt_alone 8 C6
    have := HG.out.2.2.2.2.1
    have := HC.out
    rw [lvG_eN] at *
    omega
  rw [e4, show ((4 : Nat) : Int) = 4 from rfl] at kT
  have H8 : Hid (TS w (fun i => ((False ∨ i = bt) ∨ i = bp) ∨ i = w7.heap.size) (w7.alloc (.cells #[.int .u64 0, .int .i64 9, .bool true, .bool true, .bool false, .int .i64 0, .int .i64 3] 58)) bt p pm 2100 8 (0 + 4 + 12 + 4) M6 C6 (fun _ => false) y E6 ∧ PX (w7.alloc (.cells #[.int .u64 0, .int .i64 9, .bool true, .bool true, .bool false, .int .i64 0, .int .i64 3] 58)) bp true true false ∧ LB (w7.alloc (.cells #[.int .u64 0, .int .i64 9, .bool true, .bool true, .bool false, .int .i64 0, .int .i64 3] 58)) w7.heap.size ⟨0, 9, true, true, false, 0, 3⟩) := ⟨t8, P8, B8⟩
  clear kG t7 r7 HP6 kb t8 P8 B8 e4
  unfold lvV
  simp only
  rw [show ((0 : Nat) : Int) = 0 from rfl, show ((9 : Nat) : Int) = 9 from rfl, show ((3 : Nat) : Int) = 3 from rfl]
  go_wp2_with fail
  with_reducible refine kT.mono ?_
  rintro e w9 ⟨rfl, K9⟩
  have t9 := H8.out.1.kps K9
  have P9 := H8.out.2.1.kp K9
  have B9 := H8.out.2.2.kp K9
  obtain ⟨g1, g2, g3, g4, g5, g6⟩ := HG.out
  have kU := unmap_page t9 g4 0 (by omega) (by omega) g1 g3
  rw [g2, show ((9 : Nat) : Int) = 9 from rfl, show ((0 : Nat) : Int) = 0 from rfl] at kU
  have H9 : Hid (PX w9 bp true true false ∧ LB w9 w7.heap.size ⟨0, 9, true, true, false, 0, 3⟩) := ⟨P9, B9⟩
  have H6 : Hid (∀ a b, a ≤ 3 → lfD E6 a b = if a = 3 ∧ b = qn 0 3 then ⟨3, Int.toNat 9 * 4096, true, true, false, 0⟩ else lfD eN a b) := g6
  clear kT H8 t9 P9 B9 g1 g2 g3 g4 g5 g6 HG HC K9
  generalize w7.heap.size = bl at *
  go_wp2_with fail
  with_reducible refine kU.mono ?_
  rintro e w10 ⟨rfl, C10, E10, ⟨⟨M10, t10, _⟩, ne10, r10⟩, l10⟩
  have P10 := H9.out.1.frO r10 (.inl (.inr rfl))
  have B10 := H9.out.2.frO r10 (.inr rfl)
  have b1 : (tabsA y E10).length = 1 := t10.tg.bare ne10 fun l j hl => by
    rw [l10 l j hl]
    by_cases c : l = 3 ∧ j = 0
    · rw [if_pos c]
    · rw [if_neg c, H6.out l j hl, if_neg (by rw [qn_three]; exact c)]; rfl
  have kT := tcount_any t10
  rw [← t10.tg.tabs_len, b1, show ((1 : Nat) : Int) = 1 from rfl] at kT
  have H10 : Hid (TS w (fun i => ((False ∨ i = bt) ∨ i = bp) ∨ i = bl) w10 bt p pm 2100 8 (0 + 4 + 12 + 4 + 8) M10 C10 (fun _ => false) y E10 ∧ PX w10 bp true true false) := ⟨t10, P10⟩
  have p0 := P10.c0
  have p1 := P10.c1
  have p2 := P10.c2
  have v0 := B10.c0
  have v1 := B10.c1
  have v2 := B10.c2
  have v3 := B10.c3
  have v4 := B10.c4
  have v5 := B10.c5
  have v6 := B10.c6
  simp only at v0 v1 v2 v3 v4 v5 v6
  rw [show ((0 : Nat) : Int) = 0 from rfl] at v0
  rw [show ((9 : Nat) : Int) = 9 from rfl] at v1
  rw [show ((3 : Nat) : Int) = 3 from rfl] at v6
  have hq : ∀ w : World, (binOp .eql 58 (.agg #[.int .u64 0, .int .i64 9, .bool true, .bool true, .bool false, .int .i64 0, .int .i64 3]) (.agg #[.int .u64 0, .int .i64 9, .bool true, .bool true, .bool false, .int .i64 0, .int .i64 3])).run Tryz.prog w = .ok (.bool true) w := fun w => by kernel_rfl
  clear kU H9 H6 t10 ne10 r10 l10 P10 B10 b1
  go_wp2_with fail
  with_reducible refine kT.mono ?_
  rintro e w11 ⟨rfl, K11⟩
  have t11 := H10.out.1.kps K11
  have P11 := H10.out.2.kp K11
  have kF := map_far t11.ft 268435456 9 true true false 0 (by omega)
  rw [show ((268435456 : Nat) : Int) = 268435456 from rfl] at kF
  have p0 := P11.c0
  have p1 := P11.c1
  have p2 := P11.c2
  have H11 : Hid (TS w (fun i => ((False ∨ i = bt) ∨ i = bp) ∨ i = bl) w11 bt p pm 2100 8 (0 + 4 + 12 + 4 + 8) M10 C10 (fun _ => false) y E10) := t11
  clear kT H10 t11 P11 K11 v0 v1 v2 v3 v4 v5 v6 hq
  go_wp2_with fail
  with_reducible refine kF.mono ?_
  rintro e w12 ⟨rfl, K12⟩
  have kR := tfree_any (H11.out.kps K12)
  clear kF H11 K12 p0 p1 p2
  go_wp2_with fail
  with_reducible refine kR.mono ?_
  rintro e w13 ⟨rfl, ⟨M13, f13, _⟩, x13, _⟩
  have kO := root_gone x13
  have HK : Hid (Kp w w13) := f13.kp
  clear kR f13 x13
  go_wp2_with (go_at_call 15; with_reducible refine kO.mono ?_; rintro _ w' ⟨rfl, rfl⟩)
  go_ret
  exact ⟨rfl, HK.out⟩
end Go.Proofs.YtanlcmdnhhdhaaaGreatDoor

/- TableLacks: the ground. -/
namespace Go.Proofs.YtanlcmdnhhdhaaaGreatDoor
open Go.RowKit
set_option maxRecDepth 10000

/-- Few pages. -/
def pgT (n : Nat) : Nat := [0, 1, 2, 511, 512, 513, 1023, 262144, 262145, 134217733, 268435455, 1024].getD (n % 12) 0
theorem pgT_lt (n : Nat) : pgT n < 268435456 := by
  unfold pgT
  have h := Nat.mod_lt n (show 0 < 12 by decide)
  generalize n % 12 = m at *
  rcases (by omega : m = 0 ∨ m = 1 ∨ m = 2 ∨ m = 3 ∨ m = 4 ∨ m = 5 ∨ m = 6 ∨ m = 7 ∨ m = 8 ∨ m = 9 ∨ m = 10 ∨ m = 11) with rfl | rfl | rfl | rfl | rfl | rfl | rfl | rfl | rfl | rfl | rfl | rfl <;> decide
set_option maxHeartbeats 4000000 in
theorem page_tab (n : Nat) (w : World) : Calls Tryz.prog 13 #[.int .u64 (n : Int)] w fun e w' => e = .returned (.int .u64 (pgT n : Nat)) ∧ Kp w w' := by
  unfold pgT
  have h := Nat.mod_lt n (show 0 < 12 by decide)
  obtain ⟨m, hm⟩ : ∃ m, m = n % 12 := ⟨_, rfl⟩
  rcases (by omega : m = 0 ∨ m = 1 ∨ m = 2 ∨ m = 3 ∨ m = 4 ∨ m = 5 ∨ m = 6 ∨ m = 7 ∨ m = 8 ∨ m = 9 ∨ m = 10 ∨ m = 11) with rfl | rfl | rfl | rfl | rfl | rfl | rfl | rfl | rfl | rfl | rfl | rfl
  · have e1 : (n : Int) % 12 = 0 := by omega
    have e2 : (n : Int).tmod 12 = 0 := by rw [Int.tmod_eq_emod_of_nonneg (by omega)]; exact e1
    rw [← hm]
    clear h hm
    go_enter Tryz.func13, Tryz.ntmps13
    go_wp2
    go_ret
    exact ⟨rfl, (Kp.refl _).alloc _⟩
  · have e1 : (n : Int) % 12 = 1 := by omega
    have e2 : (n : Int).tmod 12 = 1 := by rw [Int.tmod_eq_emod_of_nonneg (by omega)]; exact e1
    rw [← hm]
    clear h hm
    go_enter Tryz.func13, Tryz.ntmps13
    go_wp2
    go_ret
    exact ⟨rfl, (Kp.refl _).alloc _⟩
  · have e1 : (n : Int) % 12 = 2 := by omega
    have e2 : (n : Int).tmod 12 = 2 := by rw [Int.tmod_eq_emod_of_nonneg (by omega)]; exact e1
    rw [← hm]
    clear h hm
    go_enter Tryz.func13, Tryz.ntmps13
    go_wp2
    go_ret
    exact ⟨rfl, (Kp.refl _).alloc _⟩
  · have e1 : (n : Int) % 12 = 3 := by omega
    have e2 : (n : Int).tmod 12 = 3 := by rw [Int.tmod_eq_emod_of_nonneg (by omega)]; exact e1
    rw [← hm]
    clear h hm
    go_enter Tryz.func13, Tryz.ntmps13
    go_wp2
    go_ret
    exact ⟨rfl, (Kp.refl _).alloc _⟩
  · have e1 : (n : Int) % 12 = 4 := by omega
    have e2 : (n : Int).tmod 12 = 4 := by rw [Int.tmod_eq_emod_of_nonneg (by omega)]; exact e1
    rw [← hm]
    clear h hm
    go_enter Tryz.func13, Tryz.ntmps13
    go_wp2
    go_ret
    exact ⟨rfl, (Kp.refl _).alloc _⟩
  · have e1 : (n : Int) % 12 = 5 := by omega
    have e2 : (n : Int).tmod 12 = 5 := by rw [Int.tmod_eq_emod_of_nonneg (by omega)]; exact e1
    rw [← hm]
    clear h hm
    go_enter Tryz.func13, Tryz.ntmps13
    go_wp2
    go_ret
    exact ⟨rfl, (Kp.refl _).alloc _⟩
  · have e1 : (n : Int) % 12 = 6 := by omega
    have e2 : (n : Int).tmod 12 = 6 := by rw [Int.tmod_eq_emod_of_nonneg (by omega)]; exact e1
    rw [← hm]
    clear h hm
    go_enter Tryz.func13, Tryz.ntmps13
    go_wp2
    go_ret
    exact ⟨rfl, (Kp.refl _).alloc _⟩
  · have e1 : (n : Int) % 12 = 7 := by omega
    have e2 : (n : Int).tmod 12 = 7 := by rw [Int.tmod_eq_emod_of_nonneg (by omega)]; exact e1
    rw [← hm]
    clear h hm
    go_enter Tryz.func13, Tryz.ntmps13
    go_wp2
    go_ret
    exact ⟨rfl, (Kp.refl _).alloc _⟩
  · have e1 : (n : Int) % 12 = 8 := by omega
    have e2 : (n : Int).tmod 12 = 8 := by rw [Int.tmod_eq_emod_of_nonneg (by omega)]; exact e1
    rw [← hm]
    clear h hm
    go_enter Tryz.func13, Tryz.ntmps13
    go_wp2
    go_ret
    exact ⟨rfl, (Kp.refl _).alloc _⟩
  · have e1 : (n : Int) % 12 = 9 := by omega
    have e2 : (n : Int).tmod 12 = 9 := by rw [Int.tmod_eq_emod_of_nonneg (by omega)]; exact e1
    rw [← hm]
    clear h hm
    go_enter Tryz.func13, Tryz.ntmps13
    go_wp2
    go_ret
    exact ⟨rfl, (Kp.refl _).alloc _⟩
  · have e1 : (n : Int) % 12 = 10 := by omega
    have e2 : (n : Int).tmod 12 = 10 := by rw [Int.tmod_eq_emod_of_nonneg (by omega)]; exact e1
    rw [← hm]
    clear h hm
    go_enter Tryz.func13, Tryz.ntmps13
    go_wp2
    go_ret
    exact ⟨rfl, (Kp.refl _).alloc _⟩
  · have e1 : (n : Int) % 12 = 11 := by omega
    have e2 : (n : Int).tmod 12 = 11 := by rw [Int.tmod_eq_emod_of_nonneg (by omega)]; exact e1
    rw [← hm]
    clear h hm
    go_enter Tryz.func13, Tryz.ntmps13
    go_wp2
    go_ret
    exact ⟨rfl, (Kp.refl _).alloc _⟩
section
variable {M : Nat → Nat → Nat} {C : Nat → Nat} {pool root page : Nat} {Z : Nat → Bool} {E E' : Nat → Nat → DV} {L : List Nat} {d : DV}
/-- Leaves stand by page. -/
theorem TG.lvs_sorted (h : TG M C pool Z root E) : (lvsA E).Pairwise (fun x y => x.g < y.g) := by
  unfold lvsA
  refine pair_trv h visL_one fun m e m' e' hm hm' hk hk' ho x hx y hy => ?_
  unfold visL at hx hy
  by_cases c : (E m e).k = 1
  · rw [if_pos c] at hx; cases hx
  · by_cases c' : (E m' e').k = 1
    · rw [if_pos c'] at hy; cases hy
    · rw [if_neg c, List.mem_singleton] at hx
      rw [if_neg c', List.mem_singleton] at hy
      subst hx
      subst hy
      show pgE m e < pgE m' e'
      rcases ho with ho | ⟨ho, hlt⟩
      · exact ho
      · exfalso
        have kinds : ∀ m e, m ≤ 3 → (E m e).k ≠ 0 → (E m e).k ≠ 1 → m = 2 ∨ m = 3 := fun m e hm a b => by
          have pr := (h.ok m e hm).parts
          rcases (by omega : (E m e).k = 2 ∨ (E m e).k = 3) with q | q
          · exact .inl (h.blk m e hm q)
          · exact .inr (pr.2.2.2.2.2.2.2.2.2.1 q)
        have k1 := kinds m e hm hk c
        have k2 := kinds m' e' hm' hk' c'
        obtain rfl : m = 2 := by omega
        obtain rfl : m' = 3 := by omega
        have q1 : pgE 2 e = e * 512 := rfl
        have q2 : pgE 3 e' = e' * 1 := rfl
        have := h.above (m := 2) (e := e') (by omega) hk'
        rw [show e' / 512 = e by omega] at this
        exact c this
theorem TG.lvs_mem (h : TG M C pool Z root E) (x : LV) : x ∈ lvsA E ↔ ∃ m e, m ≤ 3 ∧ (lfD E m e).k ≠ 0 ∧ x = tellN (pgE m e) m (lfD E m e) := by
  unfold lvsA
  rw [mem_trv h]
  constructor
  · rintro ⟨m, e, a1, a2, a3⟩
    unfold visL at a3
    by_cases c : (E m e).k = 1
    · rw [if_pos c] at a3; cases a3
    · rw [if_neg c, List.mem_singleton] at a3
      have el : lfD E m e = E m e := by unfold lfD; rw [if_neg c]
      exact ⟨m, e, a1, by rw [el]; exact a2, by rw [el]; exact a3⟩
  · rintro ⟨m, e, a1, a2, a3⟩
    have c : ¬ (E m e).k = 1 := fun c => a2 (by unfold lfD; rw [if_pos c]; rfl)
    have el : lfD E m e = E m e := by unfold lfD; rw [if_neg c]
    rw [el] at a2 a3
    refine ⟨m, e, a1, a2, ?_⟩
    unfold visL
    rw [if_neg c, List.mem_singleton]
    exact a3
/-- The pages of L are mapped, and nothing else is. -/
structure LS (E : Nat → Nat → DV) (L : List Nat) : Prop where
  lf : ∀ l j, l ≤ 3 → ((lfD E l j).k ≠ 0 ↔ l = 3 ∧ j ∈ L)
  ap : L.Pairwise (· ≠ ·)
  lt : ∀ p ∈ L, p < 268435456
theorem LS.none : LS eN [] := ⟨fun l j _ => ⟨fun c => absurd rfl c, fun c => by cases c.2⟩, List.Pairwise.nil, fun p hp => by cases hp⟩
theorem LS.mapped (s : LS E L) (h : TG M C pool Z root E) : (enG E page).k ≠ 0 ↔ page ∈ L := by
  rw [h.pg.1]
  unfold pgD
  by_cases c : (lfD E 3 page).k ≠ 0
  · rw [if_pos c]
    exact ⟨fun _ => ((s.lf 3 page (by omega)).1 c).2, fun _ => c⟩
  · rw [if_neg c]
    constructor
    · intro c2
      have := (s.lf 2 (page / 512) (by omega)).1 c2
      omega
    · intro hp
      exact absurd ((s.lf 3 page (by omega)).2 ⟨rfl, hp⟩) c
theorem LS.map (s : LS E L) (hd : d.k = 3) (hn : page ∉ L) (hp : page < 268435456) (hl : ∀ a b, a ≤ 3 → lfD E' a b = if a = 3 ∧ b = page then d else lfD E a b) : LS E' (L ++ [page]) := by
  refine ⟨fun l j h3 => ?_, ?_, fun p hp' => ?_⟩
  · rw [hl l j h3]
    by_cases c : l = 3 ∧ j = page
    · rw [if_pos c, hd, c.1, c.2]; simp
    · rw [if_neg c, s.lf l j h3, List.mem_append, List.mem_singleton]
      constructor
      · rintro ⟨a, b⟩; exact ⟨a, .inl b⟩
      · rintro ⟨a, b | b⟩
        · exact ⟨a, b⟩
        · exact absurd ⟨a, b⟩ c
  · rw [List.pairwise_append]
    exact ⟨s.ap, List.pairwise_singleton _ _, fun a ha b hb => by rw [List.mem_singleton] at hb; rw [hb]; exact fun c => hn (c ▸ ha)⟩
  · rw [List.mem_append, List.mem_singleton] at hp'
    rcases hp' with c | c
    · exact s.lt p c
    · rw [c]; exact hp
theorem LS.len (s : LS E L) (h : TG M C pool Z root E) : (lvsA E).length = L.length := by
  have ap : ((lvsA E).map (·.g)).Pairwise (· ≠ ·) := by
    rw [List.pairwise_map]
    exact h.lvs_sorted.imp fun hlt c => by omega
  have mm : ∀ p, p ∈ (lvsA E).map (·.g) ↔ p ∈ L := fun p => by
    rw [List.mem_map]
    constructor
    · rintro ⟨x, hx, rfl⟩
      obtain ⟨m, e, a1, a2, rfl⟩ := (h.lvs_mem x).1 hx
      obtain ⟨rfl, he⟩ := (s.lf m e a1).1 a2
      show pgE 3 e ∈ L
      rw [show pgE 3 e = e from by show e * 1 = e; omega]
      exact he
    · intro hp
      refine ⟨tellN (pgE 3 p) 3 (lfD E 3 p), (h.lvs_mem _).2 ⟨3, p, by omega, (s.lf 3 p (by omega)).2 ⟨rfl, hp⟩, rfl⟩, ?_⟩
      show pgE 3 p = p
      show p * 1 = p
      omega
  rw [← List.length_map (f := (·.g)), ← cnt_mem _ 268435456 ap (fun x hx => s.lt x ((mm x).1 hx)), ← cnt_mem L 268435456 s.ap s.lt]
  exact cnt_like _ fun k _ => by rw [decide_eq_decide]; exact mm k
end
end Go.Proofs.YtanlcmdnhhdhaaaGreatDoor

/- TableKeeps: the ground: like leaves want as many tables; a Block, whole and in Pages. -/
namespace Go.Proofs.YtanlcmdnhhdhaaaGreatDoor
open Go.RowKit
set_option maxRecDepth 10000

section
variable {M M' : Nat → Nat → Nat} {C C' : Nat → Nat} {pool root root' page : Nat} {Z Z' : Nat → Bool} {E E' E1 : Nat → Nat → DV}
/-- Where leaves lie at the same places, tables do. -/
def Lk (E E' : Nat → Nat → DV) : Prop := ∀ a b, a ≤ 3 → ((lfD E' a b).k = 0 ↔ (lfD E a b).k = 0)
theorem Lk.symm (h : Lk E E') : Lk E' E := fun a b ha => (h a b ha).symm
theorem tab_to (h : TG M C pool Z root E) (h' : TG M' C' pool Z' root' E') (ne : NE root E (fun _ _ => False)) (lf : Lk E E') : ∀ n l j, l + n = 2 → (E l j).k = 1 → (E' l j).k = 1
  | n, l, j, hn, hk => by
    have e : tbl root E (l + 1) j = some ((E l j).a / 4096) := by rw [tbl_succ, if_pos hk]
    obtain ⟨i, hi, hi2⟩ := ne (l + 1) j _ (by omega) (by omega) id e
    have q : (512 * j + i) / 512 = j := by omega
    have up : (E' (l + 1) (512 * j + i)).k ≠ 0 → (E' l j).k = 1 := fun c => by
      have := h'.above (m := l) (e := 512 * j + i) (by omega) c
      rw [q] at this
      exact this
    by_cases c : (E (l + 1) (512 * j + i)).k = 1
    · cases n with
      | zero =>
        obtain rfl : l = 2 := by omega
        exact absurd c (h.noT3 _)
      | succ n => exact up (by rw [tab_to h h' ne lf n (l + 1) _ (by omega) c]; decide)
    · have e2 := lf (l + 1) (512 * j + i) (by omega)
      have e3 : lfD E (l + 1) (512 * j + i) = E (l + 1) (512 * j + i) := by unfold lfD; rw [if_neg c]
      refine up (fun c2 => ?_)
      have e4 : lfD E' (l + 1) (512 * j + i) = E' (l + 1) (512 * j + i) := by unfold lfD; rw [if_neg (by rw [c2]; decide)]
      rw [e4, e3] at e2
      exact hi2 (e2.1 c2)
theorem tab_iff (h : TG M C pool Z root E) (h' : TG M' C' pool Z' root' E') (ne : NE root E (fun _ _ => False)) (ne' : NE root' E' (fun _ _ => False)) (lf : Lk E E') (l j : Nat) (hl : l ≤ 3) : (E l j).k = 1 ↔ (E' l j).k = 1 := by
  rcases (by omega : l ≤ 2 ∨ l = 3) with c | c
  · exact ⟨tab_to h h' ne lf (2 - l) l j (by omega), tab_to h' h ne' lf.symm (2 - l) l j (by omega)⟩
  · subst c
    exact ⟨fun c => absurd c (h.noT3 _), fun c => absurd c (h'.noT3 _)⟩
theorem flatMap_len {α β γ : Type} (f : α → List β) (g : α → List γ) : ∀ L : List α, (∀ a ∈ L, (f a).length = (g a).length) → (L.flatMap f).length = (L.flatMap g).length
  | [], _ => rfl
  | a :: L, h => by rw [List.flatMap_cons, List.flatMap_cons, List.length_append, List.length_append, h a (by simp), flatMap_len f g L (fun b hb => h b (by simp [hb]))]
theorem vis_len (E : Nat → Nat → DV) (rec : Nat → List Nat) (l f : Nat) : (vEn E visT deepA rec l f).length = if (E l f).k = 1 then 1 + (rec f).length else 0 := by
  unfold vEn visT deepA
  by_cases c : (E l f).k = 1
  · rw [if_neg (by rw [c]; decide), if_pos c, if_pos ⟨rfl, c⟩, if_pos c, List.length_append]; rfl
  · by_cases c0 : (E l f).k = 0
    · rw [if_pos c0, if_neg c]; rfl
    · rw [if_neg c0, if_neg c, if_neg (fun a => c a.2), if_neg c]; rfl
theorem trv_len (hk : ∀ l j, l ≤ 3 → ((E l j).k = 1 ↔ (E' l j).k = 1)) : ∀ n l f, l + n ≤ 4 → (trv E visT deepA n l f).length = (trv E' visT deepA n l f).length
  | 0, _, _, _ => rfl
  | n + 1, l, f, hn => flatMap_len _ _ _ fun i _ => by
    rw [vis_len, vis_len, trv_len hk n (l + 1) _ (by omega)]
    by_cases c : (E l (512 * f + i)).k = 1
    · rw [if_pos c, if_pos ((hk _ _ (by omega)).1 c)]
    · rw [if_neg c, if_neg (fun c' => c ((hk _ _ (by omega)).2 c'))]
theorem own_like (h : TG M C pool Z root E) (h' : TG M' C' pool Z' root' E') (ne : NE root E (fun _ _ => False)) (ne' : NE root' E' (fun _ _ => False)) (lf : Lk E E') : cnt (ownC C' Z') pool = cnt (ownC C Z) pool := by
  rw [← h.tabs_len, ← h'.tabs_len]
  unfold tabsA
  rw [h.trvT, h'.trvT, List.length_cons, List.length_cons, trv_len (tab_iff h h' ne ne' lf) 4 0 0 (by omega)]
theorem free_like (h : TG M C pool (fun _ => false) root E) (h' : TG M' C' pool (fun _ => false) root' E') (ne : NE root E (fun _ _ => False)) (ne' : NE root' E' (fun _ _ => False)) (lf : Lk E E') : cnt (fT pool C') pool = cnt (fT pool C) pool := by
  have a := own_like h h' ne ne' lf
  have b := cnt_alone pool C
  have c := cnt_alone pool C'
  omega

/-! ### a Block, and nothing else -/
variable {j : Nat} {B B' : DV}
def whS (E : Nat → Nat → DV) (j : Nat) (B : DV) : Prop := ∀ a b, a ≤ 3 → lfD E a b = if a = 2 ∧ b = j then B else dN
def spS (E : Nat → Nat → DV) (j : Nat) (B : DV) : Prop := ∀ a b, a ≤ 3 → lfD E a b = if a = 3 ∧ b / 512 = j then pgOf B (b % 512) else dN
/-- One of its pages is another. -/
def spX (E : Nat → Nat → DV) (j : Nat) (B : DV) (page : Nat) (d : DV) : Prop := ∀ a b, a ≤ 3 → lfD E a b = if a = 3 ∧ b = page then d else if a = 3 ∧ b / 512 = j then pgOf B (b % 512) else dN
theorem whS.en (s : whS E j B) (h : TG M C pool Z root E) (hB : B.k = 2) (hj : page / 512 = j) : enG E page = B ∧ lvG E page = 2 := by
  have e3 := s 3 page (by omega)
  rw [if_neg (by omega)] at e3
  have e2 := s 2 (page / 512) (by omega)
  rw [if_pos ⟨rfl, hj⟩] at e2
  have p : pgD E page = B ∧ pgL E page = 2 := by
    unfold pgD pgL
    rw [e3, if_neg (fun c => c rfl), if_neg (fun c => c rfl), e2]
    exact ⟨rfl, rfl⟩
  have k := h.pg (page := page)
  have en : (enG E page).k ≠ 0 := k.1.2 (by rw [p.1, hB]; decide)
  exact ⟨(k.2 en).1.trans p.1, (k.2 en).2.trans p.2⟩
theorem spX.en (s : spX E j B page B') (h : TG M C pool Z root E) (hB : B'.k = 3) : enG E page = B' ∧ lvG E page = 3 := by
  have e3 := s 3 page (by omega)
  rw [if_pos ⟨rfl, rfl⟩] at e3
  have p : pgD E page = B' ∧ pgL E page = 3 := by
    unfold pgD pgL
    rw [e3, if_pos (by rw [hB]; decide), if_pos (by rw [hB]; decide)]
    exact ⟨rfl, rfl⟩
  have k := h.pg (page := page)
  have en : (enG E page).k ≠ 0 := k.1.2 (by rw [p.1, hB]; decide)
  exact ⟨(k.2 en).1.trans p.1, (k.2 en).2.trans p.2⟩
theorem spS.x (s : spS E j B) (hj : page / 512 = j) : spX E j B page (pgOf B (page % 512)) := fun a b ha => by
  rw [s a b ha]
  by_cases c : a = 3 ∧ b = page
  · rw [if_pos c, if_pos ⟨c.1, by rw [c.2]; exact hj⟩, c.2]
  · rw [if_neg c]
theorem spX.s (s : spX E j B page (pgOf B (page % 512))) (hj : page / 512 = j) : spS E j B := fun a b ha => by
  rw [s a b ha]
  by_cases c : a = 3 ∧ b = page
  · rw [if_pos c, if_pos ⟨c.1, by rw [c.2]; exact hj⟩, c.2]
  · rw [if_neg c]
theorem spS.en (s : spS E j B) (h : TG M C pool Z root E) (hj : page / 512 = j) : enG E page = pgOf B (page % 512) ∧ lvG E page = 3 := (s.x hj).en h rfl
theorem spX.put (s : spX E j B page B') {d : DV} (hl : ∀ a b, a ≤ 3 → lfD E' a b = if a = 3 ∧ b = page then d else lfD E a b) : spX E' j B page d := fun a b ha => by
  rw [hl a b ha]
  by_cases c : a = 3 ∧ b = page
  · rw [if_pos c, if_pos c]
  · rw [if_neg c, if_neg c, s a b ha, if_neg c]
theorem whS.at (s : whS E j B) (hB : B.k = 2) : E 2 j = B := by
  have e := s 2 j (by omega)
  rw [if_pos ⟨rfl, rfl⟩] at e
  unfold lfD at e
  by_cases c : (E 2 j).k = 1
  · rw [if_pos c] at e; rw [← e] at hB; cases hB
  · rw [if_neg c] at e; exact e
theorem whS.split (s : whS E j B) (hB : B.k = 2) (k : SpL E E' j) : spS E' j B := fun a b ha => by
  rw [k a b ha, s.at hB]
  by_cases c : a = 2 ∧ b = j
  · rw [if_pos c, if_neg (by omega)]
  · rw [if_neg c]
    by_cases c' : a = 3 ∧ b / 512 = j
    · rw [if_pos c', if_pos c']
    · rw [if_neg c', if_neg c', s a b ha, if_neg c]
/-- A Block whose 17 other table pages are free, or its Pages, whose 16 are. -/
def KSt (E : Nat → Nat → DV) (C : Nat → Nat) (j : Nat) (B : DV) : Prop := (whS E j B ∧ cnt (fT 20 C) 20 = 17) ∨ (spS E j B ∧ cnt (fT 20 C) 20 = 16)
theorem KSt.lr (s : KSt E C j B) (h : TG M C 20 Z root E) (hB : B.k = 2) (hj : page / 512 = j) (lr : LR 20 C C' E E1 page) : spS E1 j B ∧ cnt (fT 20 C') 20 = 16 := by
  rcases s with ⟨s, c⟩ | ⟨s, c⟩
  · rcases lr with ⟨k, _, _⟩ | ⟨_, k2, k3⟩
    · rw [(s.en h hB hj).1, hB] at k; cases k
    · exact ⟨s.split hB (hj ▸ k3), by omega⟩
  · rcases lr with ⟨_, rfl, rfl⟩ | ⟨k, _, _⟩
    · exact ⟨s, c⟩
    · rw [(s.en h hj).1] at k; cases k
theorem KSt.en (s : KSt E C j B) (h : TG M C pool Z root E) (hB : B.k = 2) (hj : page / 512 = j) : (enG E page).k ≠ 0 ∧ (enG E page).r = B.r ∧ (enG E page).q = B.q ∧ (enG E page).x = B.x ∧ (enG E page).f = B.f ∧ spR 20 C = 0 := by
  have sp : cnt (fT 20 C) 20 ≠ 0 → spR 20 C = 0 := fun c => by unfold spR; rw [if_neg c]
  rcases s with ⟨s, c⟩ | ⟨s, c⟩
  · rw [(s.en h hB hj).1, hB]; exact ⟨by decide, rfl, rfl, rfl, rfl, sp (by omega)⟩
  · rw [(s.en h hj).1]; exact ⟨by show (3 : Int) ≠ 0; decide, rfl, rfl, rfl, rfl, sp (by omega)⟩
/-- Behind a Protect of one page it can't be joined. -/
theorem spX.nojoin {d : DV} (s : spX E j B page d) (h : TG M C pool Z root E) (hj : page / 512 = j) (hx : d.x = !B.x) : ¬ joinB E page := by
  rintro ⟨w, _⟩
  have e3 : ∀ i, i < 512 → (E 3 (512 * (page / 512) + i)).x = if 512 * (page / 512) + i = page then d.x else B.x := fun i hi => by
    have := s 3 (512 * (page / 512) + i) (by omega)
    rw [h.lf3] at this
    rw [this]
    by_cases c : 512 * (page / 512) + i = page
    · rw [if_pos ⟨rfl, c⟩, if_pos c]
    · rw [if_neg (fun a => c a.2), if_pos ⟨rfl, by omega⟩, if_neg c]; rfl
  have all : ∀ i, i < 512 → (E 3 (512 * (page / 512) + i)).x = (E 3 (512 * (page / 512) + 0)).x := fun i hi => by
    have := w i hi
    simp only at this
    rw [this]; rfl
  have p1 := e3 (page % 512) (Nat.mod_lt _ (by decide))
  rw [if_pos (by omega)] at p1
  obtain ⟨i, hi, hn⟩ : ∃ i, i < 512 ∧ i ≠ page % 512 := by
    by_cases c : page % 512 = 0
    · exact ⟨1, by omega, by omega⟩
    · exact ⟨0, by omega, by omega⟩
  have p2 := e3 i hi
  rw [if_neg (by omega)] at p2
  rw [all _ (Nat.mod_lt _ (by decide))] at p1
  rw [all _ hi, p1, hx] at p2
  cases hb : B.x <;> rw [hb] at p2 <;> cases p2
/-- A page of it that was unmapped has its tables still. -/
theorem spX.need (s : spX E j B page dN) (h : TG M C pool Z root E) (hj : page / 512 = j) : (enG E page).k = 0 ∧ lvG E page = 3 := by
  obtain ⟨i, hi, hn⟩ : ∃ i, i < 512 ∧ i ≠ page % 512 := by
    by_cases c : page % 512 = 0
    · exact ⟨1, by omega, by omega⟩
    · exact ⟨0, by omega, by omega⟩
  have e := s 3 (512 * j + i) (by omega)
  rw [h.lf3, if_neg (by omega), if_pos ⟨rfl, by omega⟩] at e
  have lv := h.where3 (page := 512 * j + i) (by rw [e]; show (3 : Int) ≠ 0; decide)
  have q : ∀ m, m < 3 → qn (512 * j + i) m = qn page m := fun m hm => by
    rcases (by omega : m = 0 ∨ m = 1 ∨ m = 2) with rfl | rfl | rfl
    · show (512 * j + i) / 2 ^ 27 = page / 2 ^ 27; omega
    · show (512 * j + i) / 2 ^ 18 = page / 2 ^ 18; omega
    · show (512 * j + i) / 2 ^ 9 = page / 2 ^ 9; omega
  have e3 := s 3 page (by omega)
  rw [if_pos ⟨rfl, rfl⟩, h.lf3] at e3
  have l3 : lvG E page = 3 := by
    refine lvG_of (by omega) (fun m hm => ?_) (by rw [qn_three, e3]; decide)
    rw [← q m hm]
    exact lvG_on (by rw [lv]; exact hm)
  exact ⟨by unfold enG; rw [l3, qn_three, e3]; rfl, l3⟩
theorem bk_pg (hB : B.k = 2) : bkD (pgOf B 0) = B := by
  cases B
  simp only at hB
  subst hB
  rfl
theorem spS.at3 (s : spS E j B) (h : TG M C pool Z root E) {i : Nat} (hi : i < 512) : E 3 (512 * j + i) = pgOf B i := by
  have := s 3 (512 * j + i) (by omega)
  rw [h.lf3, if_pos ⟨rfl, by omega⟩, show (512 * j + i) % 512 = i by omega] at this
  exact this
theorem spS.joins (s : spS E j B) (h : TG M C pool Z root E) (hB : B.k = 2) (ok : okD 2 B) (hj : page / 512 = j) : joinB E page ∧ bkD (E 3 (512 * (page / 512))) = B := by
  have e0 : E 3 (512 * j) = pgOf B 0 := s.at3 h (i := 0) (by omega)
  have e1 : bkD (E 3 (512 * j)) = B := by rw [e0]; exact bk_pg hB
  unfold joinB
  rw [hj]
  refine ⟨⟨fun i hi => ?_, by rw [e1]; exact ok⟩, e1⟩
  show E 3 (512 * j + i) = pgOf (bkD (E 3 (512 * j + 0))) i
  rw [Nat.add_zero, e1, s.at3 h hi]
theorem spS.join (s : spS E j B) (k : JnL E E' j B) : whS E' j B := fun a b ha => by
  rw [k a b ha]
  by_cases c : a = 2 ∧ b = j
  · rw [if_pos c, if_pos c]
  · rw [if_neg c, if_neg c]
    by_cases c' : a = 3 ∧ b / 512 = j
    · rw [if_pos c']
    · rw [if_neg c', s a b ha, if_neg c']
theorem spX.like {d d' : DV} (s : spX E j B page d) (s' : spX E' j B page d') (hd : d.k = 0 ↔ d'.k = 0) : Lk E E' := fun a b ha => by
  rw [s a b ha, s' a b ha]
  by_cases c : a = 3 ∧ b = page
  · rw [if_pos c, if_pos c]; exact hd.symm
  · rw [if_neg c, if_neg c]
/-- Its one leaf. -/
theorem whS.leaves (s : whS E j B) (h : TG M C pool Z root E) (hB : B.k = 2) : lvsA E = [tellN (j * 512) 2 B] := by
  have mm : ∀ x, x ∈ lvsA E ↔ x = tellN (j * 512) 2 B := fun x => by
    rw [h.lvs_mem]
    constructor
    · rintro ⟨m, e, a1, a2, rfl⟩
      rw [s m e a1] at a2 ⊢
      by_cases c : m = 2 ∧ e = j
      · rw [if_pos c, c.1, c.2]; rfl
      · rw [if_neg c] at a2; exact absurd rfl a2
    · rintro rfl
      refine ⟨2, j, by omega, ?_, ?_⟩
      · rw [s 2 j (by omega), if_pos ⟨rfl, rfl⟩, hB]; decide
      · rw [s 2 j (by omega), if_pos ⟨rfl, rfl⟩]; rfl
  have so := h.lvs_sorted
  match hl : lvsA E with
  | [] => have := (mm _).2 rfl; rw [hl] at this; cases this
  | [x] => rw [(mm x).1 (by rw [hl]; simp)]
  | x :: y :: t =>
    have hx := (mm x).1 (by rw [hl]; simp)
    have hy := (mm y).1 (by rw [hl]; simp)
    rw [hl, List.pairwise_cons] at so
    have := so.1 y (by simp)
    rw [hx, hy] at this
    omega
end
end Go.Proofs.YtanlcmdnhhdhaaaGreatDoor

/- TableLacks: the walk. -/
namespace Go.Proofs.YtanlcmdnhhdhaaaGreatDoor
open Go.RowKit
set_option maxRecDepth 10000

section
variable {W w w' : World} {X Y : Nat → Prop} {bt p pm N pool o : Nat} {M : Nat → Nat → Nat} {C : Nat → Nat} {Z : Nat → Bool} {root : Nat} {E : Nat → Nat → DV}
theorem TS.moreF (h : TS W X w bt p pm N pool o M C Z root E) (k : Fr Y w w') (hY : ∀ i, Y i → W.heap.size ≤ i ∧ X i) (hb : ¬ Y bt) (b : Nat) (hb1 : w.heap.size ≤ b) (hb2 : b < w'.heap.size) : TS W (fun i => X i ∨ i = b) w' bt p pm N pool o M C Z root E := by
  have h' := h.frX k hY hb
  obtain ⟨ops, B, h1, h2, S, f⟩ := h.fw
  have t0 := f.t0
  refine ⟨⟨ops, B, h1, h2, S, f.fs.fr k (fun i hi c => (f.out i hi).2 (hY i c).2) (fun c => by have := (hY _ c).1; omega), h'.fw.kp, fun i hi => ⟨(f.out i hi).1, fun c => c.elim (f.out i hi).2 (fun c => by have := f.fs.own i hi; omega)⟩, fun i hi => hi.elim (fun hi => Nat.lt_of_lt_of_le (f.lt i hi) k.size) (fun c => by omega), f.t0⟩, h'.tx, .inl h'.xb, h'.bw, h'.tg⟩
end
/-- A table, and the list of what was mapped. -/
structure LJ (W wr : World) (bt p pm pool root : Nat) (v : Value) (o i : Nat) (M : Nat → Nat → Nat) (C : Nat → Nat) (E : Nat → Nat → DV) (L : List Nat) : Prop where
  ts : TS W (fun b => b = bt ∨ v.ownBlock = some b) wr bt p pm 2100 pool o M C (fun _ => false) root E
  ne : NE root E (fun _ _ => False)
  ls : LS E L
  ol : OL encU8 37 1 wr v L
  le : L.length ≤ i
  lo : ∀ b, v.ownBlock = some b → W.heap.size ≤ b ∧ b ≠ bt
section
variable {W wr u : World} {bt p pm pool root : Nat} {v : Value} {o i : Nat} {M : Nat → Nat → Nat} {C : Nat → Nat} {E : Nat → Nat → DV} {L : List Nat}
theorem LJ.kps (h : LJ W wr bt p pm pool root v o i M C E L) (k : Kp wr u) : LJ W u bt p pm pool root v o i M C E L := ⟨h.ts.kps k, h.ne, h.ls, OL.fr h.ol (k.fr (fun _ => False)) (fun _ _ => id), h.le, h.lo⟩
theorem LJ.same (h : LJ W wr bt p pm pool root v o i M C E L) {o' : Nat} {M' : Nat → Nat → Nat} (t : TS W (fun b => b = bt ∨ v.ownBlock = some b) u bt p pm 2100 pool o' M' C (fun _ => false) root E) (k : Fr (Out W (fun b => b = bt ∨ v.ownBlock = some b)) wr u) : LJ W u bt p pm pool root v o' i M' C E L := ⟨t, h.ne, h.ls, OL.fr h.ol k (fun _ hg c => c.2 (.inr hg)), h.le, h.lo⟩
theorem snoc_raw (hts : TS W (fun b => b = bt ∨ v.ownBlock = some b) wr bt p pm 2100 pool o M C (fun _ => false) root E) (hol : OL encU8 37 1 wr v L) (hlo : ∀ b, v.ownBlock = some b → W.heap.size ≤ b ∧ b ≠ bt) (pg : Nat) (le : L.length ≤ 1000) :
    ∃ na n cap u', (Builtin.append_ #[100, 100] 100 #[v, .slice (some ⟨wr.heap.size, 0, none⟩) 1 1]).run Tryz.prog (wr.alloc (.cells #[.int .u64 (pg : Int)] 37)) = .ok (.slice na n cap) u' ∧ n = (L ++ [pg]).length ∧ OL encU8 37 1 u' (.slice na n cap) (L ++ [pg]) ∧ TS W (fun b => b = bt ∨ (Value.slice na n cap).ownBlock = some b) u' bt p pm 2100 pool o M C (fun _ => false) root E ∧ ∀ b, (Value.slice na n cap).ownBlock = some b → W.heap.size ≤ b ∧ b ≠ bt := by
  obtain ⟨inf, hin, hz, hsz, hby⟩ := info_w64
  have ka : Kp wr (wr.alloc (.cells #[.int .u64 (pg : Int)] 37)) := (Kp.refl wr).alloc _
  have hts' := hts.kps ka
  have hol' : OL encU8 37 1 (wr.alloc (.cells #[.int .u64 (pg : Int)] 37)) v L := OL.fr hol (ka.fr (fun _ => False)) (fun _ _ => id)
  have hrow : (wr.alloc (.cells #[.int .u64 (pg : Int)] 37)).heap[wr.heap.size]? = some (.cells #[.int .u64 (pg : Int)] 37 (0, 0)) := heap_alloc_new wr _
  obtain ⟨v', u', r1, r2, r3, r4⟩ := OL.append encU8_ok (P := Tryz.prog) (t := 100) Tryz.underlying100 hin hz hsz rfl rfl hol' [pg] (some ⟨wr.heap.size, 0, none⟩) 1 1 rfl (.inr ⟨wr.heap.size, 0, rfl, fun j y hy => by
    rw [Nat.zero_add, cell_of_row _ _ j _ _ _ hrow]
    simpa [encU8] using hy⟩) (by simp; omega) hby 100
  have f1 : Fr (fun g => v.ownBlock = some g) (wr.alloc (.cells #[.int .u64 (pg : Int)] 37)) u' := Fr.grown r3 (fun g hg => hg)
  have hY : ∀ b, v.ownBlock = some b → W.heap.size ≤ b ∧ (b = bt ∨ v.ownBlock = some b) := fun b hb => ⟨(hlo b hb).1, .inr hb⟩
  have nb : ¬ v.ownBlock = some bt := fun c => (hlo bt c).2 rfl
  obtain ⟨na, cap, ev, _, hc⟩ := r2.form
  subst ev
  refine ⟨na, _, cap, u', r1, rfl, r2, ?_, ?_⟩
  · rcases r4 with e | e
    · rw [e]; exact hts'.frX f1 hY nb
    · rw [e]
      have hlt : (wr.alloc (.cells #[.int .u64 (pg : Int)] 37)).heap.size < u'.heap.size := by
        rcases hc with ⟨rfl, _⟩ | ⟨g, rfl, hg⟩
        · cases e
        · cases e; exact hg
      refine (hts'.moreF f1 hY nb _ (Nat.le_refl _) hlt).less (fun b hb => ?_) (.inl rfl)
      rcases hb with hb | hb
      · exact .inl (.inl hb)
      · exact .inr (Option.some.inj hb).symm
  · intro b hb
    rcases r4 with e | e
    · rw [e] at hb; exact hlo b hb
    · rw [e] at hb
      cases hb
      have s1 := hts'.fw.kp.size
      have s2 := hts'.tx.lt
      exact ⟨s1, by omega⟩
end
end Go.Proofs.YtanlcmdnhhdhaaaGreatDoor
