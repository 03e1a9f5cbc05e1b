/- FramesKinds: the walk. -/
import Derived.Test.YtjnkmmfppkpgbaaDoorV6
import Derived.Test.YtjnkmmfppkpgbaaDoorMK
import Derived.Test.YtjnkmmfppkpgbaaDoorOM
namespace Go.Proofs.YtjnkmmfppkpgbaaDoor
open Go.RowKit Go.Maps
set_option maxRecDepth 10000

/-! ### how many are free -/
theorem tk_none_cnt {F : Nat → Bool} {hi : Nat} (h : TkR F 0 none) : cnt F hi = 0 := (cnt_zero hi).2 fun k _ => by
  cases e : F k
  · rfl
  · obtain ⟨o, ho, hr⟩ := run_of e
    exact absurd hr (h o (Nat.zero_le _) ho _)
theorem tk_some_cnt {F : Nat → Bool} {hi o x : Nat} (dom : ∀ k, F k = true → k < hi) (h : TkR F o (some x)) : cnt (subF F o (x / 2 ^ o)) hi + 2 ^ o = cnt F hi := by
  obtain ⟨h1, h2⟩ := h.blk
  have hp := Nat.two_pow_pos o
  have h3 := dom _ (h2 (x + (2 ^ o - 1)) (by omega) (by omega))
  refine cnt_subF (fun k hk => ?_) (by rw [h1]; omega)
  have := (blk_iff ..).1 hk
  rw [h1] at this
  exact h2 k this.1 this.2
theorem cnt_T (pool : Nat) : cnt (fT pool (fun _ => 0)) pool = pool := by
  have := cnt_step (F := fT pool (fun _ => 0)) (a := 0) (b := pool) (Nat.zero_le _) (fun k _ h => (fT_iff ..).2 ⟨h, rfl⟩)
  rw [this]; show 0 + (pool - 0) = pool; omega
theorem cnt_P {pool N : Nat} (h : pool ≤ N) : cnt (fP pool N (fun _ => 0)) N = N - pool := by
  have h1 := cnt_step (F := fP pool N (fun _ => 0)) h (fun k h1 h2 => (fP_iff ..).2 ⟨h1, h2, rfl⟩)
  have h2 : cnt (fP pool N (fun _ => 0)) pool = 0 := (cnt_zero pool).2 fun k hk => by
    unfold fP; rw [decide_eq_false (by omega)]; rfl
  rw [h1, h2]; omega

/-- Between the asks: what was told is marked. -/
structure KI (w wr : World) (bs p pm n pool : Nat) (C : Nat → Nat) : Prop where
  fk : ∃ B, FK w (fun i => False ∨ i = bs) wr p pm n pool 0 B C
  on : ON wr bs n (fun k => decide (C k ≠ 0))
  bl : w.heap.size ≤ bs
section
variable {w wr w1 w2 : World} {bs p pm n pool x : Nat} {C C' : Nat → Nat} {B : Nat → Nat → Nat}
theorem KI.kps (h : KI w wr bs p pm n pool C) (k : Kp wr w1) : KI w w1 bs p pm n pool C := by
  obtain ⟨B, f⟩ := h.fk
  exact ⟨⟨B, f.kps k⟩, h.on.kp k, h.bl⟩
theorem KI.kp (h : KI w wr bs p pm n pool C) : Kp w wr := by
  obtain ⟨B, f⟩ := h.fk
  exact f.kp
theorem KI.mid (h : KI w wr bs p pm n pool C) (k : Fr (Out w (fun i => False ∨ i = bs)) wr w1) : ON w1 bs n (fun k => decide (C k ≠ 0)) := h.on.fr k (fun e => e.2 (.inr rfl))
theorem KI.same (h : KI w wr bs p pm n pool C) (f : FK w (fun i => False ∨ i = bs) w1 p pm n pool 0 B C) (k : Fr (Out w (fun i => False ∨ i = bs)) wr w1) : KI w w1 bs p pm n pool C := ⟨⟨B, f⟩, h.mid k, h.bl⟩
theorem KI.took (h : KI w wr bs p pm n pool C) (f : FK w (fun i => False ∨ i = bs) w1 p pm n pool 0 B (onR C x 1)) (k : Fr (Out w (fun i => False ∨ i = bs)) wr w1) : KI w (w1.setCell ⟨bs, x, none⟩ (.bool true)) bs p pm n pool (onR C x 1) := by
  have o := (h.mid k).set x true
  refine ⟨⟨B, f.frX (Y := (· = bs)) ((Fr.refl _ w1).set _ _ rfl) (fun i e => ⟨by rw [e]; exact h.bl, .inr e⟩)⟩, o.like (fun i _ => ?_), h.bl⟩
  unfold onR
  by_cases c : i = x
  · rw [if_pos c, if_pos (by omega)]; rfl
  · rw [if_neg c, if_neg (by omega)]
end

set_option maxHeartbeats 16000000 in
set_option maxRecDepth 1000000 in
theorem kinds_walk (a0 a1 : Int) (m0 r0 n m1 r1 pool : Nat) (nc : Option Addr) (mc capc : Nat) (fc : Nat → Bool) (w : World) (CI : NS w nc mc fc) (T : TAB w)
    (e1 : bits .and .i64 a0 63 = (m0 : Int)) (e2 : (m0 : Int).tmod 57 = (r0 : Int)) (e3 : 4 + (r0 : Int) = (n : Int)) (e4 : bits .and .i64 a1 63 = (m1 : Int)) (e5 : (m1 : Int).tmod ((n : Int) - 1) = (r1 : Int)) (e6 : 1 + (r1 : Int) = (pool : Int))
    (h1 : 4 ≤ n) (h2 : n ≤ 60) (h3 : 1 ≤ pool) (h4 : pool < n) :
    Calls Tryd.prog 6 #[.int .i64 a0, .int .i64 a1, .slice nc mc capc] w fun e w' => e = .returned (.bool true) ∧ Kp w w' := by
  have k1 := new_ok n w (by omega) (by omega)
  have CC : Aside (NS w nc mc fc) := CI
  have HT : Hid (TAB w) := T
  have z1 : (n : Int) ≤ 60 := by omega
  have z2 : (4 : Int) ≤ n := by omega
  have z3 : (1 : Int) ≤ pool := by omega
  have z4 : (pool : Int) < n := by omega
  have z5 : ¬ (n : Int) - 1 = 0 := by omega
  clear CI T
  go_enter Tryd.func6, Tryd.ntmps6
  go_wp2_with fail
  with_reducible refine k1.mono ?_
  rintro e w1 ⟨pm, M, rfl, m, kk, mn⟩
  have k2 := knew_ok m kk HT.out mn pool h3 (by omega) h4
  clear m kk mn k1 HT e1 e2 e3 e4 e5 e6 z5
  go_wp2_with fail
  with_reducible refine k2.mono ?_
  rintro e w2 ⟨⟨p, rfl, f2⟩, _⟩
  have hmk := make_marks n w2 (by omega)
  obtain ⟨bs, hbs⟩ : ∃ bs, bs = w2.heap.size := ⟨_, rfl⟩
  obtain ⟨w3, hw3⟩ : ∃ w3, w3 = w2.alloc (.cells (offB n) 4) := ⟨_, rfl⟩
  have k23 : Kp w2 w3 := by rw [hw3]; exact (Kp.refl w2).alloc _
  have I0 : Hid (KI w w3 bs p pm n pool (fun _ => 0)) := ⟨⟨_, f2.more k23 bs (by omega) (by rw [hw3, hbs]; simp)⟩, by rw [hw3, hbs]; exact (ON.made w2 n).like (fun i _ => rfl), by rw [hbs]; exact f2.kp.size⟩
  rw [← hw3, ← hbs] at hmk
  clear f2 k2 k23 hw3 hbs
  generalize offB n = OB at *
  go_wp2_with fail
  clear hmk
  go_loopg [11, 12, 14] 81 (fun g v11 v12 v14 wr => ∃ (i tb pg : Nat) (C : Nat → Nat), v11 = .int .i64 (tb : Int) ∧ v12 = .int .i64 (pg : Int) ∧ v14 = .int .i64 (i : Int) ∧ i ≤ 80 ∧ tb ≤ 60 ∧ pg ≤ 60 ∧ 81 - i ≤ g ∧ Hid (KI w wr bs p pm n pool C ∧ cnt (fT pool C) pool = tb ∧ cnt (fP pool n C) n = pg))
  case atStart => exact ⟨0, pool, n - pool, _, rfl, by rw [show ((n - pool : Nat) : Int) = (n : Int) - pool by omega], rfl, by omega, by omega, by omega, by omega, I0.out, cnt_T pool, cnt_P (by omega)⟩
  case round =>
    clear I0
    obtain ⟨i, tb, pg, C, rfl, rfl, rfl, hi, htb, hpg, hg, HI⟩ := hrel
    have y0 : (tb : Int) ≤ 60 := by omega
    have y00 : (pg : Int) ≤ 60 := by omega
    by_cases hlt : i < mc ∧ i < 80
    · have y1 : (i : Int) < mc := by omega
      have y2 : (i : Int) < 80 := by omega
      obtain ⟨cb, co, rfl, d1, d2⟩ := CC.out i hlt.1
      have cc := (HI.out.1.kp.cell (p := ⟨cb, co + i, none⟩) d1).trans d2
      obtain ⟨B, f⟩ := HI.out.1.fk
      cases hb : fc i
      · rw [hb] at cc d2
        obtain ⟨r, hr⟩ := tkr_ex (fP pool n C) 0
        have k3 := kpage_any f r hr
        clear f
        match r, hr, k3 with
        | none, hr, k3 =>
          have hz := tk_none_cnt (hi := n) hr
          rw [HI.out.2.2] at hz
          subst hz
          rw [show ((0 : Nat) : Int) = 0 from rfl] at y00 ⊢
          go_wp2_with fail
          with_reducible refine k3.mono ?_
          rintro e w4 ⟨rfl, f4, q4⟩
          have I4 := HI.out.1.same f4 q4
          have HI4 : Hid (KI w w4 bs p pm n pool C ∧ cnt (fT pool C) pool = tb ∧ cnt (fP pool n C) n = 0) := ⟨I4, HI.out.2⟩
          obtain ⟨B4, f5⟩ := I4.fk
          have k5 := kfree_any f5
          rw [HI.out.2.1, HI.out.2.2] at k5
          clear f4 f5 q4 I4 k3 HI hr cc
          simp only [gotX, gotE]
          go_wp2_with fail
          with_reducible refine k5.mono ?_
          rintro e w5 ⟨rfl, d5⟩
          have HI5 : Hid (KI w w5 bs p pm n pool C ∧ cnt (fT pool C) pool = tb ∧ cnt (fP pool n C) n = 0) := ⟨HI4.out.1.kps d5.kp, HI4.out.2⟩
          clear d5 HI4 k5
          go_wp2
          go_roundg (81 - (i + 1))
          case measure => omega
          case rel => exact ⟨i + 1, tb, 0, C, rfl, rfl, by go_num, by omega, by omega, by omega, by omega, HI5⟩
        | some x, hr, k3 =>
          have hx := (fP_iff ..).1 (hr.blk.2 x (Nat.le_refl _) (by omega))
          have q1 : cnt (fT pool (onR C x 1)) pool = tb := by rw [fT_out hx.1]; exact HI.out.2.1
          have q2 : cnt (fP pool n (onR C x 1)) n + 1 = pg := by rw [show fP pool n (onR C x 1) = _ from fP_on (o := 0) hr.blk.1, ← HI.out.2.2]; exact tk_some_cnt (fP_dom _ _ _) hr
          obtain ⟨v, hv⟩ : ∃ v, cnt (fP pool n (onR C x 1)) n = v := ⟨_, rfl⟩
          have y4 : ¬ (x : Int) < pool := by omega
          have y5 : (x : Int) < n := by omega
          have hC0 : C x = 0 := hx.2.2
          rw [hv] at q2
          have y6 : ¬ (pg : Int) = 0 := by omega
          have y7 : (pg : Int) - 1 = (v : Int) := by omega
          have HQ : Hid (cnt (fT pool (onR C x 1)) pool = tb ∧ cnt (fP pool n (onR C x 1)) n = v) := ⟨q1, hv⟩
          have hvl : v ≤ 60 := by omega
          clear q1 q2 hv
          go_wp2_with fail
          with_reducible refine k3.mono ?_
          rintro e w4 ⟨rfl, f4, q4⟩
          have I4 := HI.out.1.took f4 q4
          have o4 := HI.out.1.mid q4
          have cs := o4.cell x (by omega)
          have fs := o4.frz x
          have cc4 := (f4.kp.cell (p := ⟨cb, co + i, none⟩) d1).trans d2
          rw [show decide (C x ≠ 0) = false from decide_eq_false (fun e => e hC0)] at cs
          have HI4 : Hid (KI w (w4.setCell ⟨bs, x, none⟩ (.bool true)) bs p pm n pool (onR C x 1)) := I4
          obtain ⟨B4, f5⟩ := I4.fk
          have k5 := kfree_any f5
          rw [HQ.out.1, HQ.out.2] at k5
          clear f4 f5 q4 I4 k3 HI hr cc o4 hx hC0 d1 d2
          simp only [gotX, gotE]
          go_wp2_with fail
          with_reducible refine k5.mono ?_
          rintro e w5 ⟨rfl, d5⟩
          have HI5 : Hid (KI w w5 bs p pm n pool (onR C x 1) ∧ cnt (fT pool (onR C x 1)) pool = tb ∧ cnt (fP pool n (onR C x 1)) n = v) := ⟨HI4.out.kps d5.kp, HQ.out⟩
          clear d5 HI4 k5 HQ
          go_wp2
          go_roundg (81 - (i + 1))
          case measure => omega
          case rel => exact ⟨i + 1, tb, v, onR C x 1, rfl, rfl, by go_num, by omega, by omega, by omega, by omega, HI5⟩
      · rw [hb] at cc d2
        obtain ⟨r, hr⟩ := tkr_ex (fT pool C) 0
        have k3 := ktable_any f r hr
        clear f
        match r, hr, k3 with
        | none, hr, k3 =>
          have hz := tk_none_cnt (hi := pool) hr
          rw [HI.out.2.1] at hz
          subst hz
          rw [show ((0 : Nat) : Int) = 0 from rfl] at y0 ⊢
          go_wp2_with fail
          with_reducible refine k3.mono ?_
          rintro e w4 ⟨rfl, f4, q4⟩
          have I4 := HI.out.1.same f4 q4
          have HI4 : Hid (KI w w4 bs p pm n pool C ∧ cnt (fT pool C) pool = 0 ∧ cnt (fP pool n C) n = pg) := ⟨I4, HI.out.2⟩
          obtain ⟨B4, f5⟩ := I4.fk
          have k5 := kfree_any f5
          rw [HI.out.2.1, HI.out.2.2] at k5
          clear f4 f5 q4 I4 k3 HI hr cc
          simp only [gotX, gotE]
          go_wp2_with fail
          with_reducible refine k5.mono ?_
          rintro e w5 ⟨rfl, d5⟩
          have HI5 : Hid (KI w w5 bs p pm n pool C ∧ cnt (fT pool C) pool = 0 ∧ cnt (fP pool n C) n = pg) := ⟨HI4.out.1.kps d5.kp, HI4.out.2⟩
          clear d5 HI4 k5
          go_wp2
          go_roundg (81 - (i + 1))
          case measure => omega
          case rel => exact ⟨i + 1, 0, pg, C, rfl, rfl, by go_num, by omega, by omega, by omega, by omega, HI5⟩
        | some x, hr, k3 =>
          have hx := (fT_iff ..).1 (hr.blk.2 x (Nat.le_refl _) (by omega))
          have q2 : cnt (fP pool n (onR C x 1)) n = pg := by rw [fP_out (by omega)]; exact HI.out.2.2
          have q1 : cnt (fT pool (onR C x 1)) pool + 1 = tb := by rw [show fT pool (onR C x 1) = _ from fT_on (o := 0) hr.blk.1, ← HI.out.2.1]; exact tk_some_cnt (fT_dom _ _) hr
          obtain ⟨v, hv⟩ : ∃ v, cnt (fT pool (onR C x 1)) pool = v := ⟨_, rfl⟩
          have y4 : (x : Int) < pool := by omega
          have y5 : (x : Int) < n := by omega
          have hC0 : C x = 0 := hx.2
          rw [hv] at q1
          have y6 : ¬ (tb : Int) = 0 := by omega
          have y7 : (tb : Int) - 1 = (v : Int) := by omega
          have HQ : Hid (cnt (fT pool (onR C x 1)) pool = v ∧ cnt (fP pool n (onR C x 1)) n = pg) := ⟨hv, q2⟩
          have hvl : v ≤ 60 := by omega
          clear q1 q2 hv
          go_wp2_with fail
          with_reducible refine k3.mono ?_
          rintro e w4 ⟨rfl, f4, q4⟩
          have I4 := HI.out.1.took f4 q4
          have o4 := HI.out.1.mid q4
          have cs := o4.cell x (by omega)
          have fs := o4.frz x
          have cc4 := (f4.kp.cell (p := ⟨cb, co + i, none⟩) d1).trans d2
          rw [show decide (C x ≠ 0) = false from decide_eq_false (fun e => e hC0)] at cs
          have HI4 : Hid (KI w (w4.setCell ⟨bs, x, none⟩ (.bool true)) bs p pm n pool (onR C x 1)) := I4
          obtain ⟨B4, f5⟩ := I4.fk
          have k5 := kfree_any f5
          rw [HQ.out.1, HQ.out.2] at k5
          clear f4 f5 q4 I4 k3 HI hr cc o4 hx hC0 d1 d2
          simp only [gotX, gotE]
          go_wp2_with fail
          with_reducible refine k5.mono ?_
          rintro e w5 ⟨rfl, d5⟩
          have HI5 : Hid (KI w w5 bs p pm n pool (onR C x 1) ∧ cnt (fT pool (onR C x 1)) pool = v ∧ cnt (fP pool n (onR C x 1)) n = pg) := ⟨HI4.out.kps d5.kp, HQ.out⟩
          clear d5 HI4 k5 HQ
          go_wp2
          go_roundg (81 - (i + 1))
          case measure => omega
          case rel => exact ⟨i + 1, v, pg, onR C x 1, rfl, rfl, by go_num, by omega, by omega, by omega, by omega, HI5⟩
    · have kt := ftold_any wr (by obtain ⟨B, f⟩ := HI.out.1.fk; exact f.tab)
      have HK : Hid (Kp w wr) := HI.out.1.kp
      clear HI
      by_cases c1 : i < mc
      · have y1 : (i : Int) < mc := by omega
        have y2 : ¬ (i : Int) < 80 := by omega
        go_wp2_with fail
        with_reducible refine kt.mono ?_
        rintro e w9 ⟨rfl, K9⟩
        have HK2 : Hid (Kp w w9) := HK.out.trans K9
        clear K9 kt
        go_wp2
        go_ret
        exact ⟨rfl, HK2.out⟩
      · have y1 : ¬ (i : Int) < mc := by omega
        go_wp2_with fail
        with_reducible refine kt.mono ?_
        rintro e w9 ⟨rfl, K9⟩
        have HK2 : Hid (Kp w w9) := HK.out.trans K9
        clear K9 kt
        go_wp2
        go_ret
        exact ⟨rfl, HK2.out⟩
theorem kinds_any (a0 a1 : Int) (nc : Option Addr) (mc capc : Nat) (fc : Nat → Bool) (w : World) (CI : NS w nc mc fc) (T : TAB w) :
    Calls Tryd.prog 6 #[.int .i64 a0, .int .i64 a1, .slice nc mc capc] w fun e w' => e = .returned (.bool true) ∧ Kp w w' := by
  obtain ⟨m0, e1, l1⟩ := and_lim a0 63 (by omega)
  obtain ⟨m1, e2, l2⟩ := and_lim a1 63 (by omega)
  have hl := Nat.mod_lt m1 (show 0 < 3 + m0 % 57 by omega)
  refine kinds_walk a0 a1 m0 (m0 % 57) (4 + m0 % 57) m1 (m1 % (3 + m0 % 57)) (1 + m1 % (3 + m0 % 57)) nc mc capc fc w CI T e1 ?_ (by omega) e2 ?_ (by omega) (by omega) (by omega) (by omega) (by omega)
  · rw [Int.tmod_eq_emod_of_nonneg (by omega)]; omega
  · rw [Int.tmod_eq_emod_of_nonneg (by omega), show ((4 + m0 % 57 : Nat) : Int) - 1 = ((3 + m0 % 57 : Nat) : Int) by omega, Int.natCast_emod]
end Go.Proofs.YtjnkmmfppkpgbaaDoor
