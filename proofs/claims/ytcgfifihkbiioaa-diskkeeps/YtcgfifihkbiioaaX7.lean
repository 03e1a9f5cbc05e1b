/- DiskFails: the walk. -/
import Derived.Test.YtcgfifihkbiioaaX6
namespace Go.Proofs.Ytcgfifihkbiioaa
open Go.RowKit Go.Maps

theorem drop_head (nb : Nat → Bool) (n a : Nat) : ((bl nb n).drop a).headD false = (decide (a < n) && nb a) := by
  by_cases h : a < n
  · have : (bl nb n).drop a = nb a :: (bl nb n).drop (a + 1) := by
      rw [List.drop_eq_getElem_cons (by rw [bl_len]; exact h)]
      simp [bl]
    rw [this, decide_eq_true h]; rfl
  · rw [List.drop_eq_nil_of_le (by rw [bl_len]; omega), decide_eq_false h]; rfl
theorem drop_tail (nb : Nat → Bool) (n a : Nat) : ((bl nb n).drop a).tail = (bl nb n).drop (a + 1) := by simp
theorem drop_end (nb : Nat → Bool) (n a : Nat) (h : n ≤ a) : (bl nb n).drop a = [] := List.drop_eq_nil_of_le (by rw [bl_len]; exact h)
theorem drop_len (nb : Nat → Bool) (n a : Nat) : ((bl nb n).drop a).length = n - a := by rw [List.length_drop, bl_len]

/-- The device of DiskFails: the slot 0 is taken, all 0. -/
theorem oT_put : putT oT 0 z0 = oT := by
  funext y
  unfold putT
  split
  · rename_i h; subst h; rfl
  · rfl
theorem wrT_o (A : List Bool) (n : Nat) : wrT oT A 0 n z0 = oT := by
  unfold wrT
  split
  · exact oT_put
  · rfl
/-- What holds ahead of each call. -/
structure FI (w wr : World) (p b n a : Nat) (nb : Nat → Bool) : Prop where
  du : DU (Bes w b) wr p 3 oT ((bl nb n).drop a)
  kp : Kp w wr
  bs : BS wr b 0 4096 z0
theorem FI.next {w wr w' : World} {p b n a a' : Nat} {nb : Nat → Bool} (h : FI w wr p b n a nb) (d : DU (Bes w b) w' p 3 oT ((bl nb n).drop a')) (k : Fr (Bes w b) wr w') : FI w w' p b n a' nb :=
  ⟨d, k.kp h.kp (fun _ hi => hi.1), h.bs.fr k (fun hu => hu.2 rfl)⟩
theorem FI.left {w wr : World} {p b n a : Nat} {nb : Nat → Bool} (h : FI w wr p b n a nb) (ha : a ≤ n) :
    Calls Try.prog 22 #[.pointer (some ⟨p, 0, none⟩)] wr fun e w' => e = .returned (.int .i64 ((n : Int) - a)) ∧ w' = wr := by
  have := dd_left h.du
  rw [drop_len, show ((n - a : Nat) : Int) = (n : Int) - a by omega] at this
  exact this
/-- A Read or Write that is told ahead. -/
theorem FI.step {n a : Nat} {nb : Nat → Bool} (ha : a ≤ n) : ∃ a' : Nat, a' ≤ n ∧ (if (n : Int) < (a : Int) + 1 then (n : Int) else (a : Int) + 1) = (a' : Int) ∧ ((bl nb n).drop a).tail = (bl nb n).drop a' := by
  by_cases h : a < n
  · exact ⟨a + 1, h, by rw [if_neg (by omega)]; rfl, drop_tail nb n a⟩
  · have e : a = n := by omega
    subst e
    exact ⟨a, Nat.le_refl _, by rw [if_pos (by omega)], by rw [drop_tail, drop_end nb a (a + 1) (by omega), drop_end nb a a (Nat.le_refl _)]⟩

set_option maxHeartbeats 16000000 in
set_option maxRecDepth 100000 in
theorem fails_walk (na : Option Addr) (m cap n : Nat) (nb : Nat → Bool) (nc : Option Addr) (mc capc : Nat) (fc : Nat → Int) (w : World) (H : NS w na m nb) (hcap : m ≤ cap) (hna : na = none → cap = 0) (C : NSK .i64 w nc mc fc)
    (hn : n ≤ 30) (hnm : n ≤ m) (hmn : (if (30 : Int) < (m : Int) then 30 else (m : Int)) = (n : Int)) :
    Calls Try.prog 6 #[.slice na m cap, .slice nc mc capc] w fun e w' => e = .returned (.bool true) ∧ Kp w w' := by
  have k1 : Calls Try.prog 7 #[.int .i64 3] w fun e w' => ∃ p, e = .returned (.tuple #[.pointer (some ⟨p, 0, none⟩), .int .i64 0]) ∧ DU (fun k => w.heap.size ≤ k) w' p 3 (fun _ => none) [] ∧ Kp w w' := dd_new 3 w (by omega)
  have NN : Aside (NS w na m nb) := H
  have CC : Aside (NSK .i64 w nc mc fc) := C
  have hU : Aside (∀ w' : World, w.heap.size ≤ w'.heap.size → Free (fun k => w.heap.size ≤ k) w') := fun w' h k hk => Nat.le_trans h hk
  have z1 : (n : Int) ≤ m := by omega
  have z2 : (n : Int) ≤ cap := by omega
  have z3 : (n : Int) ≤ 30 := by omega
  have HN : Hid (na = none → n = 0 ∧ cap = 0) := (show na = none → n = 0 ∧ cap = 0 from fun h => by have := hna h; omega)
  clear H C hna
  go_enter Try.func6, Try.ntmps6
  go_wp2_with fail
  with_reducible refine k1.mono ?_
  rintro e w1 ⟨p, rfl, P1, K1⟩
  clear k1
  have k3 : Calls Try.prog 9 #[.pointer (some ⟨p, 0, none⟩)] w1 fun e w' => e = .returned (.tuple #[.int .i64 0, .int .i64 0]) ∧ DU (fun k => w.heap.size ≤ k) w' p 3 oT [] ∧ Fr (fun k => w.heap.size ≤ k) w1 w' := dd_take P1 (hU.out _ K1.size)
  have HK : Hid (Kp w w1) := K1
  clear P1 K1
  go_wp2_with fail
  with_reducible refine k3.mono ?_
  rintro e w2 ⟨rfl, P2, F2⟩
  clear k3
  have K2 := F2.kp HK.out (fun i hi => hi)
  have k4 := dd_fail P2 (hU.out _ K2.size) na n cap nb ((NN.out.kp K2).less hnm) HN.out (by omega)
  have HK2 : Hid (Kp w w2) := K2
  clear P2 F2 K2 HK
  go_wp2_with fail
  with_reducible refine k4.mono ?_
  rintro e w3 ⟨rfl, P3, F3⟩
  clear k4 hmn
  have K3 := F3.kp HK2.out (fun i hi => hi)
  have hmk := make_page w3
  obtain ⟨b, hb⟩ : ∃ b, b = w3.heap.size := ⟨_, rfl⟩
  obtain ⟨w4, h4⟩ : ∃ w4, w4 = w3.alloc (.cells (bytesOf z0 4096).toArray 5) := ⟨_, rfl⟩
  have k34 : Kp w3 w4 := by rw [h4]; exact (Kp.refl w3).alloc _
  have bs : BS w4 b 0 4096 z0 := by rw [h4, hb]; exact (RB.made w3 4096).bs z0_byte
  have I0 : Hid (FI w w4 p b n 0 nb) := ⟨(P3.cut (fun i hi h => ⟨h, by omega⟩)).kp k34, K3.trans k34, bs⟩
  have HB : Hid (w.heap.size ≤ b ∧ b < w4.heap.size) := ⟨by rw [hb]; exact K3.size, bs.lt⟩
  rw [← h4, ← hb] at hmk
  clear P3 F3 K3 k34 bs hb h4 HK2
  go_wp2_with fail
  clear hmk
  go_loopg [10, 12] 61 (fun g v10 v12 wr => ∃ (i a : Nat), v10 = .int .i64 (a : Int) ∧ v12 = .int .i64 (i : Int) ∧ i ≤ 60 ∧ a ≤ n ∧ 61 - i ≤ g ∧ Hid (FI w wr p b n a nb))
  case atStart => exact ⟨0, 0, rfl, rfl, by omega, by omega, by omega, I0⟩
  case round =>
    clear I0
    obtain ⟨i, a, rfl, rfl, hi, ha, hg, HI⟩ := hrel
    by_cases hlt : i < mc ∧ i < 60
    · have y1 : (i : Int) < mc := by omega
      have y2 : (i : Int) < 60 := by omega
      obtain ⟨⟨cb, co, rfl, q1, q2⟩, q3⟩ := CC.out i hlt.1
      have cc := (HI.out.kp.cell (p := ⟨cb, co + i, none⟩) q1).trans q2
      obtain ⟨κ, e7, l7⟩ := and_lim (fc i) 7 (by omega)
      obtain ⟨π, e1, l1⟩ := and_lim (fc i) 1 (by omega)
      rw [show ((7 : Nat) : Int) = 7 from rfl] at e7
      rw [show ((1 : Nat) : Int) = 1 from rfl] at e1
      have CB : Hid (cb < w.heap.size ∧ w.cell? ⟨cb, co + i, none⟩ = some (.int .i64 (fc i))) := ⟨q1, q2⟩
      have hFr : Hid (Free (Bes w b) wr) := (show Free (Bes w b) wr from fun k hk => ⟨by have := HI.out.kp.size; omega, by have := HI.out.bs.lt; omega⟩)
      generalize fc i = ci at *
      have z4 : (a : Int) ≤ n := by omega
      clear q1 q2 q3 hlt
      have cs : κ = 0 ∨ κ = 1 ∨ κ = 2 ∨ κ = 3 ∨ ((κ ≠ 0 ∧ κ ≠ 1 ∧ κ ≠ 2 ∧ κ ≠ 3) ∧ π = 0) ∨ ((κ ≠ 0 ∧ κ ≠ 1 ∧ κ ≠ 2 ∧ κ ≠ 3) ∧ π = 1) := by omega
      rcases cs with rfl | rfl | rfl | rfl | ⟨hk, rfl⟩ | ⟨hk, rfl⟩
      · as_aux_lemma =>
        have k5 : Calls Try.prog 14 #[.pointer (some ⟨p, 0, none⟩), .int .i64 1, .slice (some ⟨b, 0, none⟩) 4096 4096] wr fun e w' => e = .returned (.int .i64 23) ∧ DU (Bes w b) w' p 3 oT ((bl nb n).drop a) ∧ Fr (Bes w b) wr w' := dd_write HI.out.du 1 (by decide) _ 4096 4096 z0 z0_byte (fun _ => ⟨b, 0, rfl, HI.out.bs.lt, fun h => h.2 rfl, HI.out.bs.cells⟩)
        go_wp2_with fail
        with_reducible refine k5.mono ?_
        rintro e w6 ⟨rfl, P6, F6⟩
        have H6 : Hid (FI w w6 p b n a nb) := HI.out.next P6 F6
        have k6 := H6.out.left ha
        clear k5 P6 F6 HI hFr CB
        go_wp2_with (go_at_call 22; with_reducible refine k6.mono ?_; rintro e w' ⟨rfl, rfl⟩)
        go_roundg (61 - (i + 1))
        case measure => omega
        case rel => exact ⟨i + 1, a, by go_num, by go_num, by omega, by omega, by omega, H6⟩
      · as_aux_lemma =>
        have k5 : Calls Try.prog 16 #[.pointer (some ⟨p, 0, none⟩), .int .i64 2] wr fun e w' => ∃ na cap, e = .returned (.tuple #[.slice na 0 cap, .int .i64 23]) ∧ Told wr w' na 0 (rdF oT 2) ∧ DU (Bes w b) w' p 3 oT ((bl nb n).drop a) ∧ Fr (Bes w b) wr w' := dd_read HI.out.du 2 (by decide)
        go_wp2_with fail
        with_reducible refine k5.mono ?_
        rintro e w6 ⟨na6, cap6, rfl, _, P6, F6⟩
        have H6 : Hid (FI w w6 p b n a nb) := HI.out.next P6 F6
        have k6 := H6.out.left ha
        clear k5 P6 F6 HI hFr CB
        go_wp2_with (go_at_call 22; with_reducible refine k6.mono ?_; rintro e w' ⟨rfl, rfl⟩)
        go_roundg (61 - (i + 1))
        case measure => omega
        case rel => exact ⟨i + 1, a, by go_num, by go_num, by omega, by omega, by omega, H6⟩
      · as_aux_lemma =>
        have k5 : Calls Try.prog 14 #[.pointer (some ⟨p, 0, none⟩), .int .i64 0, .slice (some ⟨b, 0, none⟩) 9 4096] wr fun e w' => e = .returned (.int .i64 1) ∧ DU (Bes w b) w' p 3 oT ((bl nb n).drop a) ∧ Fr (Bes w b) wr w' := dd_write HI.out.du 0 (by decide) _ 9 4096 z0 z0_byte (fun h => by omega)
        go_wp2_with fail
        with_reducible refine k5.mono ?_
        rintro e w6 ⟨rfl, P6, F6⟩
        have H6 : Hid (FI w w6 p b n a nb) := HI.out.next P6 F6
        have k6 := H6.out.left ha
        clear k5 P6 F6 HI hFr CB
        go_wp2_with (go_at_call 22; with_reducible refine k6.mono ?_; rintro e w' ⟨rfl, rfl⟩)
        go_roundg (61 - (i + 1))
        case measure => omega
        case rel => exact ⟨i + 1, a, by go_num, by go_num, by omega, by omega, by omega, H6⟩
      · as_aux_lemma =>
        have k5 : Calls Try.prog 11 #[.pointer (some ⟨p, 0, none⟩), .int .i64 1] wr fun e w' => e = .returned (.int .i64 23) ∧ DU (Bes w b) w' p 3 oT ((bl nb n).drop a) ∧ Fr (Bes w b) wr w' := dd_give HI.out.du 1 (by decide)
        go_wp2_with fail
        with_reducible refine k5.mono ?_
        rintro e w6 ⟨rfl, P6, F6⟩
        have H6 : Hid (FI w w6 p b n a nb) := HI.out.next P6 F6
        have k6 := H6.out.left ha
        clear k5 P6 F6 HI hFr CB
        go_wp2_with (go_at_call 22; with_reducible refine k6.mono ?_; rintro e w' ⟨rfl, rfl⟩)
        go_roundg (61 - (i + 1))
        case measure => omega
        case rel => exact ⟨i + 1, a, by go_num, by go_num, by omega, by omega, by omega, H6⟩
      · as_aux_lemma =>
        have hk0 : ((κ : Int) == 0) = false := by simp; omega
        have hk1 : ((κ : Int) == 1) = false := by simp; omega
        have hk2 : ((κ : Int) == 2) = false := by simp; omega
        have hk3 : ((κ : Int) == 3) = false := by simp; omega
        have hj0 : ¬ (κ : Int) = 0 := by omega
        have hj1 : ¬ (κ : Int) = 1 := by omega
        have hj2 : ¬ (κ : Int) = 2 := by omega
        have hj3 : ¬ (κ : Int) = 3 := by omega
        clear hk
        have hd := drop_head nb n a
        obtain ⟨a', s1, s2, s3⟩ := FI.step (nb := nb) ha
        by_cases ham : a < n
        · have y3 : (a : Int) < n := by omega
          rw [decide_eq_true ham, Bool.true_and] at hd
          obtain ⟨fb0, fo0, rfl, r1, r2⟩ := NN.out a (by omega)
          have r3 := (HI.out.kp.cell (p := ⟨fb0, fo0 + a, none⟩) r1).trans r2
          have y5 : (a : Int) < m := by omega
          cases hv : nb a
          · rw [hv] at hd r3
            have k5 : Calls Try.prog 14 #[.pointer (some ⟨p, 0, none⟩), .int .i64 0, .slice (some ⟨b, 0, none⟩) 4096 4096] wr fun e w' => e = .returned (.int .i64 0) ∧ DU (Bes w b) w' p 3 oT ((bl nb n).drop a') ∧ Fr (Bes w b) wr w' := by
              have := dd_write HI.out.du 0 (by decide) (some ⟨b, 0, none⟩) 4096 4096 z0 z0_byte (fun _ => ⟨b, 0, rfl, HI.out.bs.lt, fun h => h.2 rfl, HI.out.bs.cells⟩)
              rw [wrT_o, show wrA oT ((bl nb n).drop a) 0 4096 = ((bl nb n).drop a).tail from rfl, s3, show wrR oT ((bl nb n).drop a) 0 4096 = 0 by unfold wrR; rw [hd]; rfl] at this
              exact this
            clear r1 r2 hv hd
            go_wp2_with fail
            with_reducible refine k5.mono ?_
            rintro e w6 ⟨rfl, P6, F6⟩
            have H6 : Hid (FI w w6 p b n a' nb) := HI.out.next P6 F6
            have k6 := H6.out.left s1
            clear k5 P6 F6 HI hFr CB
            go_wp2_with (go_at_call 22; with_reducible refine k6.mono ?_; rintro e w' ⟨rfl, rfl⟩)
            go_roundg (61 - (i + 1))
            case measure => omega
            case rel => exact ⟨i + 1, a', by go_num, by go_num, by omega, by omega, by omega, H6⟩
          · rw [hv] at hd r3
            have k5 : Calls Try.prog 14 #[.pointer (some ⟨p, 0, none⟩), .int .i64 0, .slice (some ⟨b, 0, none⟩) 4096 4096] wr fun e w' => e = .returned (.int .i64 13) ∧ DU (Bes w b) w' p 3 oT ((bl nb n).drop a') ∧ Fr (Bes w b) wr w' := by
              have := dd_write HI.out.du 0 (by decide) (some ⟨b, 0, none⟩) 4096 4096 z0 z0_byte (fun _ => ⟨b, 0, rfl, HI.out.bs.lt, fun h => h.2 rfl, HI.out.bs.cells⟩)
              rw [wrT_o, show wrA oT ((bl nb n).drop a) 0 4096 = ((bl nb n).drop a).tail from rfl, s3, show wrR oT ((bl nb n).drop a) 0 4096 = 13 by unfold wrR; rw [hd]; rfl] at this
              exact this
            clear r1 r2 hv hd
            go_wp2_with fail
            with_reducible refine k5.mono ?_
            rintro e w6 ⟨rfl, P6, F6⟩
            have H6 : Hid (FI w w6 p b n a' nb) := HI.out.next P6 F6
            have k6 := H6.out.left s1
            clear k5 P6 F6 HI hFr CB
            go_wp2_with (go_at_call 22; with_reducible refine k6.mono ?_; rintro e w' ⟨rfl, rfl⟩)
            go_roundg (61 - (i + 1))
            case measure => omega
            case rel => exact ⟨i + 1, a', by go_num, by go_num, by omega, by omega, by omega, H6⟩
        · have y3 : ¬ (a : Int) < n := by omega
          rw [decide_eq_false ham, Bool.false_and] at hd
          have k5 : Calls Try.prog 14 #[.pointer (some ⟨p, 0, none⟩), .int .i64 0, .slice (some ⟨b, 0, none⟩) 4096 4096] wr fun e w' => e = .returned (.int .i64 0) ∧ DU (Bes w b) w' p 3 oT ((bl nb n).drop a') ∧ Fr (Bes w b) wr w' := by
            have := dd_write HI.out.du 0 (by decide) (some ⟨b, 0, none⟩) 4096 4096 z0 z0_byte (fun _ => ⟨b, 0, rfl, HI.out.bs.lt, fun h => h.2 rfl, HI.out.bs.cells⟩)
            rw [wrT_o, show wrA oT ((bl nb n).drop a) 0 4096 = ((bl nb n).drop a).tail from rfl, s3, show wrR oT ((bl nb n).drop a) 0 4096 = 0 by unfold wrR; rw [hd]; rfl] at this
            exact this
          clear hd
          go_wp2_with fail
          with_reducible refine k5.mono ?_
          rintro e w6 ⟨rfl, P6, F6⟩
          have H6 : Hid (FI w w6 p b n a' nb) := HI.out.next P6 F6
          have k6 := H6.out.left s1
          clear k5 P6 F6 HI hFr CB
          go_wp2_with (go_at_call 22; with_reducible refine k6.mono ?_; rintro e w' ⟨rfl, rfl⟩)
          go_roundg (61 - (i + 1))
          case measure => omega
          case rel => exact ⟨i + 1, a', by go_num, by go_num, by omega, by omega, by omega, H6⟩
      · as_aux_lemma =>
        have hk0 : ((κ : Int) == 0) = false := by simp; omega
        have hk1 : ((κ : Int) == 1) = false := by simp; omega
        have hk2 : ((κ : Int) == 2) = false := by simp; omega
        have hk3 : ((κ : Int) == 3) = false := by simp; omega
        have hj0 : ¬ (κ : Int) = 0 := by omega
        have hj1 : ¬ (κ : Int) = 1 := by omega
        have hj2 : ¬ (κ : Int) = 2 := by omega
        have hj3 : ¬ (κ : Int) = 3 := by omega
        clear hk
        have hd := drop_head nb n a
        obtain ⟨a', s1, s2, s3⟩ := FI.step (nb := nb) ha
        by_cases ham : a < n
        · have y3 : (a : Int) < n := by omega
          rw [decide_eq_true ham, Bool.true_and] at hd
          obtain ⟨fb0, fo0, rfl, r1, r2⟩ := NN.out a (by omega)
          have r3 := (HI.out.kp.cell (p := ⟨fb0, fo0 + a, none⟩) r1).trans r2
          have y5 : (a : Int) < m := by omega
          cases hv : nb a
          · rw [hv] at hd r3
            have k5 : Calls Try.prog 16 #[.pointer (some ⟨p, 0, none⟩), .int .i64 0] wr fun e w' => ∃ na n6 cap, e = .returned (.tuple #[.slice na n6 cap, .int .i64 0]) ∧ DU (Bes w b) w' p 3 oT ((bl nb n).drop a') ∧ Fr (Bes w b) wr w' := by
              have := dd_read HI.out.du 0 (by decide)
              rw [show rdA oT ((bl nb n).drop a) 0 = ((bl nb n).drop a).tail from rfl, s3, show rdR oT ((bl nb n).drop a) 0 = 0 by unfold rdR; rw [hd]; rfl] at this
              exact this.mono fun e w' ⟨na, cap, r1, _, r2⟩ => ⟨na, _, cap, r1, r2⟩
            clear r1 r2 hv hd
            go_wp2_with fail
            with_reducible refine k5.mono ?_
            rintro e w6 ⟨na6, n6, cap6, rfl, P6, F6⟩
            have H6 : Hid (FI w w6 p b n a' nb) := HI.out.next P6 F6
            have k6 := H6.out.left s1
            clear k5 P6 F6 HI hFr CB
            go_wp2_with (go_at_call 22; with_reducible refine k6.mono ?_; rintro e w' ⟨rfl, rfl⟩)
            go_roundg (61 - (i + 1))
            case measure => omega
            case rel => exact ⟨i + 1, a', by go_num, by go_num, by omega, by omega, by omega, H6⟩
          · rw [hv] at hd r3
            have k5 : Calls Try.prog 16 #[.pointer (some ⟨p, 0, none⟩), .int .i64 0] wr fun e w' => ∃ na n6 cap, e = .returned (.tuple #[.slice na n6 cap, .int .i64 13]) ∧ DU (Bes w b) w' p 3 oT ((bl nb n).drop a') ∧ Fr (Bes w b) wr w' := by
              have := dd_read HI.out.du 0 (by decide)
              rw [show rdA oT ((bl nb n).drop a) 0 = ((bl nb n).drop a).tail from rfl, s3, show rdR oT ((bl nb n).drop a) 0 = 13 by unfold rdR; rw [hd]; rfl] at this
              exact this.mono fun e w' ⟨na, cap, r1, _, r2⟩ => ⟨na, _, cap, r1, r2⟩
            clear r1 r2 hv hd
            go_wp2_with fail
            with_reducible refine k5.mono ?_
            rintro e w6 ⟨na6, n6, cap6, rfl, P6, F6⟩
            have H6 : Hid (FI w w6 p b n a' nb) := HI.out.next P6 F6
            have k6 := H6.out.left s1
            clear k5 P6 F6 HI hFr CB
            go_wp2_with (go_at_call 22; with_reducible refine k6.mono ?_; rintro e w' ⟨rfl, rfl⟩)
            go_roundg (61 - (i + 1))
            case measure => omega
            case rel => exact ⟨i + 1, a', by go_num, by go_num, by omega, by omega, by omega, H6⟩
        · have y3 : ¬ (a : Int) < n := by omega
          rw [decide_eq_false ham, Bool.false_and] at hd
          have k5 : Calls Try.prog 16 #[.pointer (some ⟨p, 0, none⟩), .int .i64 0] wr fun e w' => ∃ na n6 cap, e = .returned (.tuple #[.slice na n6 cap, .int .i64 0]) ∧ DU (Bes w b) w' p 3 oT ((bl nb n).drop a') ∧ Fr (Bes w b) wr w' := by
            have := dd_read HI.out.du 0 (by decide)
            rw [show rdA oT ((bl nb n).drop a) 0 = ((bl nb n).drop a).tail from rfl, s3, show rdR oT ((bl nb n).drop a) 0 = 0 by unfold rdR; rw [hd]; rfl] at this
            exact this.mono fun e w' ⟨na, cap, r1, _, r2⟩ => ⟨na, _, cap, r1, r2⟩
          clear hd
          go_wp2_with fail
          with_reducible refine k5.mono ?_
          rintro e w6 ⟨na6, n6, cap6, rfl, P6, F6⟩
          have H6 : Hid (FI w w6 p b n a' nb) := HI.out.next P6 F6
          have k6 := H6.out.left s1
          clear k5 P6 F6 HI hFr CB
          go_wp2_with (go_at_call 22; with_reducible refine k6.mono ?_; rintro e w' ⟨rfl, rfl⟩)
          go_roundg (61 - (i + 1))
          case measure => omega
          case rel => exact ⟨i + 1, a', by go_num, by go_num, by omega, by omega, by omega, H6⟩
    · have NLT : Hid (¬ (i < mc ∧ i < 60)) := hlt
      clear hlt
      have fin : ∀ w9, Kp wr w9 → Calls Try.prog 20 #[.pointer (some ⟨p, 0, none⟩)] w9 fun e w' => e = .returned (.int .i64 2) ∧ Kp w w' := fun w9 k9 => (dd_free (HI.out.du.kp k9)).mono fun e w' ⟨e1, d⟩ => ⟨e1, (HI.out.kp.trans k9).trans d.kp⟩
      have FIN : Aside (∀ w9, Kp wr w9 → Calls Try.prog 20 #[.pointer (some ⟨p, 0, none⟩)] w9 fun e w' => e = .returned (.int .i64 2) ∧ Kp w w') := fin
      clear fin
      by_cases hlt : (i : Int) < mc
      · have y2 : ¬ (i : Int) < 60 := by have := NLT.out; omega
        go_wp2_with fail
        with_reducible refine (told_any _).mono ?_
        rintro e w9 ⟨rfl, K9⟩
        have k10 := FIN.out w9 K9
        clear K9
        go_wp2_with fail
        with_reducible refine k10.mono ?_
        rintro e w10 ⟨rfl, K10⟩
        have HK10 : Hid (Kp w w10) := K10
        clear K10 k10
        go_wp2
        go_ret
        exact ⟨rfl, HK10.out⟩
      · go_wp2_with fail
        with_reducible refine (told_any _).mono ?_
        rintro e w9 ⟨rfl, K9⟩
        have k10 := FIN.out w9 K9
        clear K9
        go_wp2_with fail
        with_reducible refine k10.mono ?_
        rintro e w10 ⟨rfl, K10⟩
        have HK10 : Hid (Kp w w10) := K10
        clear K10 k10
        go_wp2
        go_ret
        exact ⟨rfl, HK10.out⟩

theorem fails_any (na : Option Addr) (m cap : Nat) (nb : Nat → Bool) (nc : Option Addr) (mc capc : Nat) (fc : Nat → Int) (w : World) (H : NS w na m nb) (hcap : m ≤ cap) (hna : na = none → cap = 0) (C : NSK .i64 w nc mc fc) :
    Calls Try.prog 6 #[.slice na m cap, .slice nc mc capc] w fun e w' => e = .returned (.bool true) ∧ Kp w w' := by
  by_cases h : 30 < m
  · exact fails_walk na m cap 30 nb nc mc capc fc w H hcap hna C (by omega) (by omega) (by rw [if_pos (by omega)]; rfl)
  · exact fails_walk na m cap m nb nc mc capc fc w H hcap hna C (by omega) (by omega) (by rw [if_neg (by omega)])

end Go.Proofs.Ytcgfifihkbiioaa
