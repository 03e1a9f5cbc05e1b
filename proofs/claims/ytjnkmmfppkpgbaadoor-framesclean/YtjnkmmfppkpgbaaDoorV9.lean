/- FramesClean: the walk. -/
import Derived.Test.YtjnkmmfppkpgbaaDoorV8
namespace Go.Proofs.YtjnkmmfppkpgbaaDoor
open Go.RowKit Go.Maps
set_option maxRecDepth 10000

theorem mask8 (a : Int) : ∃ m : Nat, bits .and .i64 a 4088 = (m : Int) ∧ m ≤ 4088 ∧ m % 8 = 0 := by
  have h1 : (BitVec.ofInt 64 a &&& BitVec.ofInt 64 4088).toNat ≤ 4088 := by
    rw [BitVec.toNat_and]
    exact Nat.le_trans Nat.and_le_right (by decide)
  have h2 : (BitVec.ofInt 64 a &&& BitVec.ofInt 64 4088).toNat % 8 = 0 := by
    rw [BitVec.toNat_and, show (BitVec.ofInt 64 4088).toNat = 4088 from by decide]
    apply Nat.eq_of_testBit_eq
    intro i
    rw [show (8 : Nat) = 2 ^ 3 from rfl, Nat.testBit_mod_two_pow, Nat.testBit_and, Nat.zero_testBit]
    by_cases c : i < 3
    · have : i = 0 ∨ i = 1 ∨ i = 2 := by omega
      rw [show Nat.testBit 4088 i = false from by rcases this with rfl | rfl | rfl <;> decide, Bool.and_false, Bool.and_false]
    · rw [decide_eq_false c]; rfl
  refine ⟨_, ?_, h1, h2⟩
  show IntKind.i64.wrap ((BitVec.ofInt 64 a &&& BitVec.ofInt 64 4088).toNat : Nat) = _
  rw [IntKind.wrap_i64]
  omega

theorem onR_one (C : Nat → Nat) (x : Nat) : putC C x 1 = onR C x 1 := by
  funext j
  unfold putC onR
  by_cases e : j = x
  · rw [if_pos e, if_pos (by omega)]
  · rw [if_neg e, if_neg (by omega)]

set_option maxHeartbeats 32000000 in
set_option maxRecDepth 1000000 in
theorem clean_walk (a0 : Int) (m0 n : Nat) (nc : Option Addr) (mc capc : Nat) (V : Nat → Int × Int × Int) (w : World) (CI : Steps w nc mc V) (T : TAB w)
    (e1 : bits .and .i64 a0 63 = (m0 : Int)) (e2 : 4 + (m0 : Int) = (n : Int)) (h1 : 4 ≤ n) (h2 : n ≤ 67) :
    Calls Tryd.prog 4 #[.int .i64 a0, .slice nc mc capc] w fun e w' => e = .returned (.bool true) ∧ Kp w w' := by
  have k1 := new_ok n w (by omega) (by omega)
  have CC : Aside (Steps w nc mc V) := CI
  have HT : Hid (TAB w) := T
  have z1 : (n : Int) ≤ 67 := by omega
  have z2 : (4 : Int) ≤ n := by omega
  obtain ⟨M, hM⟩ : ∃ M, M = n - 2 := ⟨_, rfl⟩
  have f1 : (n : Int) - 2 = (M : Int) := by omega
  have hMn : M + 2 = n := by omega
  clear CI T hM
  go_enter Tryd.func4, Tryd.ntmps4
  go_wp2_with fail
  with_reducible refine k1.mono ?_
  rintro e w1 ⟨pm, MS, rfl, m, kk, mn⟩
  have k2 := knew_ok m kk HT.out mn 2 (by omega) (by omega) (by omega)
  rw [show ((2 : Nat) : Int) = 2 from rfl] at k2
  clear m kk mn k1 HT e1 e2
  go_wp2_with fail
  with_reducible refine k2.mono ?_
  rintro e w2 ⟨⟨p, rfl, f2⟩, _⟩
  have hmk := make_ints n w2 (by omega)
  obtain ⟨bs, hbs⟩ : ∃ bs, bs = w2.heap.size := ⟨_, rfl⟩
  obtain ⟨w3, hw3⟩ : ∃ w3, w3 = w2.alloc (.cells (zeroI n) 3) := ⟨_, rfl⟩
  have k23 : Kp w2 w3 := by rw [hw3]; exact (Kp.refl w2).alloc _
  have I0 : Hid (LI w w3 bs p pm n 0 (fun _ => z0) (fun _ => 0)) := ⟨f2.more k23 bs (by omega) (by rw [hw3, hbs]; simp), by rw [hw3, hbs]; exact OI.made w2 n, by rw [hbs]; exact f2.kp.size, fun j hj => by rw [clear_zero hj rfl]; rfl, fun _ _ => rfl⟩
  rw [← hw3, ← hbs] at hmk
  clear f2 k2 k23 hw3 hbs
  generalize zeroI n = OB at *
  go_wp2_with fail
  clear hmk
  go_loopg [10, 11] 81 (fun g v10 v11 wr => ∃ (i fr ops : Nat) (B : Nat → Nat → Nat) (C : Nat → Nat), v10 = .int .i64 (fr : Int) ∧ v11 = .int .i64 (i : Int) ∧ i ≤ 80 ∧ fr ≤ 70 ∧ ops ≤ i ∧ 81 - i ≤ g ∧ Hid (LI w wr bs p pm n ops B C ∧ cnt (fP 2 n C) n = fr ∧ ∀ x, C x ≤ i))
  case atStart => exact ⟨0, M, 0, _, _, rfl, rfl, by omega, by omega, by omega, by omega, I0.out, by rw [cnt_P (by omega)]; omega, fun _ => Nat.zero_le _⟩
  case round =>
    clear I0
    obtain ⟨i, fr, ops, B, C, rfl, rfl, hi, hfr, hops, hg, HI⟩ := hrel
    have y0 : (fr : Int) ≤ 70 := by omega
    by_cases hlt : i < mc ∧ i < 80
    · have y1 : (i : Int) < mc := by omega
      have y2 : (i : Int) < 80 := by omega
      obtain ⟨⟨cb, co, rfl, d0, c0, c1, c2⟩, _⟩ := CC.out i hlt.1
      obtain ⟨q, g0, l0⟩ := and_lim (V i).1 3 (by omega)
      obtain ⟨t, pl, g1, g2, g3, g4, g5⟩ := place_of (V i).2.1 M (by omega)
      generalize (V i).1 = ck at *
      generalize (V i).2.1 = cf at *
      generalize (V i).2.2 = ca at *
      have x0 := (HI.out.1.fk.kp.cell (p := ⟨cb, co + i * 3, none⟩) d0).trans c0
      have x1 := (HI.out.1.fk.kp.cell (p := ⟨cb, co + i * 3 + 1, none⟩) d0).trans c1
      obtain ⟨k, hk⟩ : ∃ k, k = 2 + pl := ⟨_, rfl⟩
      have hkn : k < n := by omega
      have hk2 : 2 ≤ k := by omega
      have y3 : (k : Int) < n := by omega
      have f3 : t + (n : Int) - 2 = t + (M : Int) := by omega
      have f5 : 2 + (pl : Int) = (k : Int) := by omega
      have f6 : ¬ (M : Int) = 0 := by omega
      rw [show ((3 : Nat) : Int) = 3 from rfl] at g0
      clear c0 c1 hk
      have hq : q = 0 ∨ q = 1 ∨ q = 2 ∨ q = 3 := by omega
      clear l0
      rcases hq with rfl | rfl | rfl | rfl
      · as_aux_lemma =>
          rw [show ((0 : Nat) : Int) = 0 from rfl] at g0
          obtain ⟨r, hr⟩ := tkr_ex (fP 2 n C) 0
          have k3 := kpage_any HI.out.1.fk r hr
          match r, hr, k3 with
          | none, hr, k3 =>
            have hz := tk_none_cnt (hi := n) hr
            rw [HI.out.2.1] at hz
            subst hz
            rw [show ((0 : Nat) : Int) = 0 from rfl] at y0 ⊢
            clear c2
            go_wp2_with fail
            with_reducible refine k3.mono ?_
            rintro e w4 ⟨rfl, f4, q4⟩
            have HI4 : Hid (LI w w4 bs p pm n ops B C ∧ cnt (fP 2 n C) n = 0 ∧ ∀ x, C x ≤ i + 1) := ⟨⟨f4, HI.out.1.mid q4, HI.out.1.bl, HI.out.1.cl, HI.out.1.t2⟩, HI.out.2.1, fun x => Nat.le_succ_of_le (HI.out.2.2 x)⟩
            clear f4 q4 k3 HI hr
            simp only [gotX, gotE]
            go_wp2
            go_roundg (81 - (i + 1))
            case measure => omega
            case rel => exact ⟨i + 1, 0, ops, _, C, rfl, by go_num, by omega, by omega, by omega, by omega, HI4⟩
          | some x, hr, k3 =>
            have hx := (fP_iff ..).1 (hr.blk.2 x (Nat.le_refl _) (by omega))
            have q1 : cnt (fP 2 n (onR C x 1)) n + 1 = fr := by rw [show fP 2 n (onR C x 1) = _ from fP_on (o := 0) hr.blk.1, ← HI.out.2.1]; exact tk_some_cnt (fP_dom _ _ _) hr
            obtain ⟨v, hv⟩ : ∃ v, cnt (fP 2 n (onR C x 1)) n = v := ⟨_, rfl⟩
            rw [hv] at q1
            obtain ⟨a8, g8, l8, m8⟩ := mask8 ca
            obtain ⟨ad, had⟩ : ∃ ad, ad = x * 4096 + a8 := ⟨_, rfl⟩
            have y4 : ¬ (x : Int) < 2 := by omega
            have y5 : (x : Int) < n := by omega
            have y6 : (0 : Int) < fr := by omega
            have y6n : 0 < fr := by omega
            have y7 : (fr : Int) - 1 = (v : Int) := by omega
            have y8 : (a8 : Int) ≤ 4088 := by omega
            have y9 : (x : Int) * 4096 + (a8 : Int) = (ad : Int) := by omega
            have hcw : chkP n ad ((8 : Nat) : Int) = 0 := by
              unfold chkP
              rw [if_neg (by omega), if_neg (by show ¬ ad % 8 ≠ 0; omega), if_neg (by omega)]
            have hdiv : ad / 4096 = x := by omega
            have hmod : ad % 4096 = a8 := by omega
            go_wp2_with fail
            with_reducible refine k3.mono ?_
            rintro e w4 ⟨rfl, f4, q4⟩
            have o4 := HI.out.1.mid q4
            have cs := o4.cell x (by omega)
            rw [hx.2.2] at cs
            have kcl := kclear_any f4 (x : Int) (wf_nat (by omega))
            rw [clear_zero (by omega) (show gotB B (some x) 1 x = z0 from if_pos (by omega))] at kcl
            have kw := kwrite_ok f4 ad 8 99 (by omega) hcw (by omega) (by omega)
            rw [hdiv, hmod] at kw
            have c24 := (f4.kp.cell (p := ⟨cb, co + i * 3 + 2, none⟩) d0).trans c2
            rw [show ((0 : Nat) : Int) = 0 from rfl] at cs
            rw [show ((8 : Nat) : Int) = 8 from rfl, show ((99 : Nat) : Int) = 99 from rfl] at kw
            have HX : Hid (LI w wr bs p pm n ops B C ∧ cnt (fP 2 n C) n = fr ∧ (∀ x, C x ≤ i) ∧ OI w4 bs n C ∧ cnt (fP 2 n (onR C x 1)) n = v) := ⟨HI.out.1, HI.out.2.1, HI.out.2.2, o4, hv⟩
            have HQ : Hid (2 ≤ x ∧ x < n ∧ C x = 0) := hx
            clear f4 q4 k3 HI hr o4 c2 hcw hdiv hmod had hx hv m8 l8
            simp only [gotX, gotE]
            go_wp2_with (go_at_call 28; with_reducible refine kcl.mono ?_; rintro e w' ⟨rfl, rfl⟩)
            with_reducible refine kw.mono ?_
            rintro e w4 ⟨rfl, f4, q4⟩
            have o4 := HX.out.2.2.2.1.fr q4 (fun e => e.2 (.inr rfl))
            have cs := o4.cell x HQ.out.2.1
            have fs := o4.frz x
            have eC : putC C x 1 = onR C x 1 := onR_one C x
            have eB : ∀ j, j ≠ x → putFr (gotB B (some x) 1) x (putF (gotB B (some x) 1 x) a8 8 99) j = B j := fun j hj => by
              rw [putFr_other _ _ _ _ hj]; exact if_neg (by omega)
            have eX : putFr (gotB B (some x) 1) x (putF (gotB B (some x) 1 x) a8 8 99) x a8 ≠ 0 := by
              rw [putFr_same]; unfold putF; rw [if_pos (by omega), Nat.sub_self]; decide
            obtain ⟨B2, hB2⟩ : ∃ B2, B2 = putFr (gotB B (some x) 1) x (putF (gotB B (some x) 1 x) a8 8 99) := ⟨_, rfl⟩
            rw [← hB2] at f4 eB eX
            have hqx := HQ.out
            have HI4 : Hid (LI w (w4.setCell ⟨bs, x, none⟩ (.int .i64 1)) bs p pm n (ops + 1) B2 (onR C x 1) ∧ cnt (fP 2 n (onR C x 1)) n = v ∧ ∀ y, onR C x 1 y ≤ i + 1) := ⟨⟨f4.row _ HX.out.1.bl (.inr rfl), by rw [← eC]; exact o4.set x 1, HX.out.1.bl, fun j hj => by
                by_cases e : j = x
                · subst e
                  rw [clear_not (show a8 < 4096 by omega) eX, ← eC, putC_same]; rfl
                · rw [clear_like (eB j e), HX.out.1.cl j hj, ← eC, putC_other _ _ e], fun j hj => by rw [← eC, putC_other _ _ (by omega)]; exact HX.out.1.t2 j hj⟩, HX.out.2.2.2.2, fun y => by rw [← eC]; unfold putC; split; omega; exact Nat.le_succ_of_le (HX.out.2.2.1 y)⟩
            obtain ⟨cv, hcv⟩ : ∃ cv, onR C x 1 k = cv := ⟨_, rfl⟩
            have HV : Hid (onR C x 1 k = cv) := hcv
            clear hcv eX eB eC hB2 o4 f4 q4 kw kcl HX HQ hqx
            have k5 := kfree_any HI4.out.1.fk
            rw [HI4.out.1.cnt2, HI4.out.2.1, show ((2 : Nat) : Int) = 2 from rfl] at k5
            go_wp2_with fail
            with_reducible refine k5.mono ?_
            rintro e w5 ⟨rfl, d5⟩
            have I5 := HI4.out.1.kps d5.kp
            have HI5 : Hid (LI w w5 bs p pm n (ops + 1) (B2) (onR C x 1) ∧ cnt (fP 2 n (onR C x 1)) n = v ∧ ∀ yy, (onR C x 1) yy ≤ i + 1) := ⟨I5, HI4.out.2⟩
            have ck : ∀ m, (w5.drewN m).cell? ⟨bs, k, none⟩ = some (.int .i64 (cv : Nat)) := fun m => by have := I5.on.cell k hkn; rw [HV.out] at this; exact this
            have kC : Aside (∀ m, Calls Tryd.prog 26 #[.pointer (some ⟨p, 0, none⟩), .int .i64 (k : Int)] (w5.drewN m) fun e w'' => e = .returned (.int .i64 (cv : Nat)) ∧ w'' = w5.drewN m) := fun m => by
              have := kcount_any (I5.kps ((Kp.refl w5).drewN m)).fk (k : Int) (wf_nat (by omega))
              rw [cI_nat, HV.out] at this
              exact this
            clear d5 HI4 k5 I5 HV
            go_wp2_with fail
            go_quiet (first | (go_at_call 26; go_must (exact (kC.out _).mono fun e w' h => ⟨h.1, _, h.2⟩)))
            rename_i nq
            have HI6 : Hid (LI w (w5.drewN nq) bs p pm n (ops + 1) (B2) (onR C x 1) ∧ cnt (fP 2 n (onR C x 1)) n = v ∧ ∀ yy, (onR C x 1) yy ≤ i + 1) := ⟨HI5.out.1.kps ((Kp.refl w5).drewN _), HI5.out.2⟩
            clear HI5 kC ck
            go_wp2
            go_roundg (81 - (i + 1))
            case measure => omega
            case rel => exact ⟨i + 1, v, (ops + 1), B2, onR C x 1, rfl, by go_num, by omega, by omega, by omega, by omega, HI6⟩
      · as_aux_lemma =>
          rw [show ((1 : Nat) : Int) = 1 from rfl] at g0
          obtain ⟨r, hr⟩ := tkr_ex (fP 2 n C) 0
          have k3 := kpage_any HI.out.1.fk r hr
          match r, hr, k3 with
          | none, hr, k3 =>
            have hz := tk_none_cnt (hi := n) hr
            rw [HI.out.2.1] at hz
            subst hz
            rw [show ((0 : Nat) : Int) = 0 from rfl] at y0 ⊢
            clear c2
            go_wp2_with fail
            with_reducible refine k3.mono ?_
            rintro e w4 ⟨rfl, f4, q4⟩
            have HI4 : Hid (LI w w4 bs p pm n ops B C ∧ cnt (fP 2 n C) n = 0 ∧ ∀ x, C x ≤ i + 1) := ⟨⟨f4, HI.out.1.mid q4, HI.out.1.bl, HI.out.1.cl, HI.out.1.t2⟩, HI.out.2.1, fun x => Nat.le_succ_of_le (HI.out.2.2 x)⟩
            clear f4 q4 k3 HI hr
            simp only [gotX, gotE]
            go_wp2
            go_roundg (81 - (i + 1))
            case measure => omega
            case rel => exact ⟨i + 1, 0, ops, _, C, rfl, by go_num, by omega, by omega, by omega, by omega, HI4⟩
          | some x, hr, k3 =>
            have hx := (fP_iff ..).1 (hr.blk.2 x (Nat.le_refl _) (by omega))
            have q1 : cnt (fP 2 n (onR C x 1)) n + 1 = fr := by rw [show fP 2 n (onR C x 1) = _ from fP_on (o := 0) hr.blk.1, ← HI.out.2.1]; exact tk_some_cnt (fP_dom _ _ _) hr
            obtain ⟨v, hv⟩ : ∃ v, cnt (fP 2 n (onR C x 1)) n = v := ⟨_, rfl⟩
            rw [hv] at q1
            obtain ⟨a8, g8, l8, m8⟩ := mask8 ca
            obtain ⟨ad, had⟩ : ∃ ad, ad = x * 4096 + a8 := ⟨_, rfl⟩
            have y4 : ¬ (x : Int) < 2 := by omega
            have y5 : (x : Int) < n := by omega
            have y6 : (0 : Int) < fr := by omega
            have y6n : 0 < fr := by omega
            have y7 : (fr : Int) - 1 = (v : Int) := by omega
            have y8 : (a8 : Int) ≤ 4088 := by omega
            have y9 : (x : Int) * 4096 + (a8 : Int) = (ad : Int) := by omega
            have hcw : chkP n ad ((8 : Nat) : Int) = 0 := by
              unfold chkP
              rw [if_neg (by omega), if_neg (by show ¬ ad % 8 ≠ 0; omega), if_neg (by omega)]
            have hdiv : ad / 4096 = x := by omega
            have hmod : ad % 4096 = a8 := by omega
            go_wp2_with fail
            with_reducible refine k3.mono ?_
            rintro e w4 ⟨rfl, f4, q4⟩
            have o4 := HI.out.1.mid q4
            have cs := o4.cell x (by omega)
            rw [hx.2.2] at cs
            have kcl := kclear_any f4 (x : Int) (wf_nat (by omega))
            rw [clear_zero (by omega) (show gotB B (some x) 1 x = z0 from if_pos (by omega))] at kcl
            have kw := kwrite_ok f4 ad 8 99 (by omega) hcw (by omega) (by omega)
            rw [hdiv, hmod] at kw
            have c24 := (f4.kp.cell (p := ⟨cb, co + i * 3 + 2, none⟩) d0).trans c2
            rw [show ((0 : Nat) : Int) = 0 from rfl] at cs
            rw [show ((8 : Nat) : Int) = 8 from rfl, show ((99 : Nat) : Int) = 99 from rfl] at kw
            have HX : Hid (LI w wr bs p pm n ops B C ∧ cnt (fP 2 n C) n = fr ∧ (∀ x, C x ≤ i) ∧ OI w4 bs n C ∧ cnt (fP 2 n (onR C x 1)) n = v) := ⟨HI.out.1, HI.out.2.1, HI.out.2.2, o4, hv⟩
            have HQ : Hid (2 ≤ x ∧ x < n ∧ C x = 0) := hx
            clear f4 q4 k3 HI hr o4 c2 hcw hdiv hmod had hx hv m8 l8
            simp only [gotX, gotE]
            go_wp2_with (go_at_call 28; with_reducible refine kcl.mono ?_; rintro e w' ⟨rfl, rfl⟩)
            with_reducible refine kw.mono ?_
            rintro e w4 ⟨rfl, f4, q4⟩
            have o4 := HX.out.2.2.2.1.fr q4 (fun e => e.2 (.inr rfl))
            have cs := o4.cell x HQ.out.2.1
            have fs := o4.frz x
            have eC : putC C x 1 = onR C x 1 := onR_one C x
            have eB : ∀ j, j ≠ x → putFr (gotB B (some x) 1) x (putF (gotB B (some x) 1 x) a8 8 99) j = B j := fun j hj => by
              rw [putFr_other _ _ _ _ hj]; exact if_neg (by omega)
            have eX : putFr (gotB B (some x) 1) x (putF (gotB B (some x) 1 x) a8 8 99) x a8 ≠ 0 := by
              rw [putFr_same]; unfold putF; rw [if_pos (by omega), Nat.sub_self]; decide
            obtain ⟨B2, hB2⟩ : ∃ B2, B2 = putFr (gotB B (some x) 1) x (putF (gotB B (some x) 1 x) a8 8 99) := ⟨_, rfl⟩
            rw [← hB2] at f4 eB eX
            have hqx := HQ.out
            have HI4 : Hid (LI w (w4.setCell ⟨bs, x, none⟩ (.int .i64 1)) bs p pm n (ops + 1) B2 (onR C x 1) ∧ cnt (fP 2 n (onR C x 1)) n = v ∧ ∀ y, onR C x 1 y ≤ i + 1) := ⟨⟨f4.row _ HX.out.1.bl (.inr rfl), by rw [← eC]; exact o4.set x 1, HX.out.1.bl, fun j hj => by
                by_cases e : j = x
                · subst e
                  rw [clear_not (show a8 < 4096 by omega) eX, ← eC, putC_same]; rfl
                · rw [clear_like (eB j e), HX.out.1.cl j hj, ← eC, putC_other _ _ e], fun j hj => by rw [← eC, putC_other _ _ (by omega)]; exact HX.out.1.t2 j hj⟩, HX.out.2.2.2.2, fun y => by rw [← eC]; unfold putC; split; omega; exact Nat.le_succ_of_le (HX.out.2.2.1 y)⟩
            obtain ⟨cv, hcv⟩ : ∃ cv, onR C x 1 k = cv := ⟨_, rfl⟩
            have HV : Hid (onR C x 1 k = cv) := hcv
            clear hcv eX eB eC hB2 o4 f4 q4 kw kcl HX HQ hqx
            have k5 := kfree_any HI4.out.1.fk
            rw [HI4.out.1.cnt2, HI4.out.2.1, show ((2 : Nat) : Int) = 2 from rfl] at k5
            go_wp2_with fail
            with_reducible refine k5.mono ?_
            rintro e w5 ⟨rfl, d5⟩
            have I5 := HI4.out.1.kps d5.kp
            have HI5 : Hid (LI w w5 bs p pm n (ops + 1) (B2) (onR C x 1) ∧ cnt (fP 2 n (onR C x 1)) n = v ∧ ∀ yy, (onR C x 1) yy ≤ i + 1) := ⟨I5, HI4.out.2⟩
            have ck : ∀ m, (w5.drewN m).cell? ⟨bs, k, none⟩ = some (.int .i64 (cv : Nat)) := fun m => by have := I5.on.cell k hkn; rw [HV.out] at this; exact this
            have kC : Aside (∀ m, Calls Tryd.prog 26 #[.pointer (some ⟨p, 0, none⟩), .int .i64 (k : Int)] (w5.drewN m) fun e w'' => e = .returned (.int .i64 (cv : Nat)) ∧ w'' = w5.drewN m) := fun m => by
              have := kcount_any (I5.kps ((Kp.refl w5).drewN m)).fk (k : Int) (wf_nat (by omega))
              rw [cI_nat, HV.out] at this
              exact this
            clear d5 HI4 k5 I5 HV
            go_wp2_with fail
            go_quiet (first | (go_at_call 26; go_must (exact (kC.out _).mono fun e w' h => ⟨h.1, _, h.2⟩)))
            rename_i nq
            have HI6 : Hid (LI w (w5.drewN nq) bs p pm n (ops + 1) (B2) (onR C x 1) ∧ cnt (fP 2 n (onR C x 1)) n = v ∧ ∀ yy, (onR C x 1) yy ≤ i + 1) := ⟨HI5.out.1.kps ((Kp.refl w5).drewN _), HI5.out.2⟩
            clear HI5 kC ck
            go_wp2
            go_roundg (81 - (i + 1))
            case measure => omega
            case rel => exact ⟨i + 1, v, (ops + 1), B2, onR C x 1, rfl, by go_num, by omega, by omega, by omega, by omega, HI6⟩
      · as_aux_lemma =>
          rw [show ((2 : Nat) : Int) = 2 from rfl] at g0
          have k3 := kref_any HI.out.1.fk (k : Int) (wf_nat (by omega))
          have hC := HI.out.2.2 k
          unfold refN refE refC refO at k3
          rw [cI_nat, Int.toNat_natCast] at k3
          by_cases e0 : C k = 0
          · rw [e0, decide_eq_false (by omega), if_neg (by decide), if_neg (by decide), if_neg (by decide)] at k3
            rw [show ((0 : Nat) : Int) = 0 from rfl] at k3
            go_wp2_with fail
            with_reducible refine k3.mono ?_
            rintro e w4 ⟨rfl, f4, q4⟩
            have o4 := HI.out.1.mid q4
            have cs := o4.cell k hkn
            rw [e0, show ((0 : Nat) : Int) = 0 from rfl] at cs
            have HI4 : Hid (LI w w4 bs p pm n ops B C ∧ cnt (fP 2 n C) n = fr ∧ ∀ x, C x ≤ i + 1) := ⟨⟨f4, o4, HI.out.1.bl, HI.out.1.cl, HI.out.1.t2⟩, HI.out.2.1, fun x => Nat.le_succ_of_le (HI.out.2.2 x)⟩
            have HV : Hid (C k = 0) := e0
            clear f4 q4 k3 HI o4 e0
            have k5 := kfree_any HI4.out.1.fk
            rw [HI4.out.1.cnt2, HI4.out.2.1, show ((2 : Nat) : Int) = 2 from rfl] at k5
            go_wp2_with fail
            with_reducible refine k5.mono ?_
            rintro e w5 ⟨rfl, d5⟩
            have I5 := HI4.out.1.kps d5.kp
            have HI5 : Hid (LI w w5 bs p pm n ops (B) (C) ∧ cnt (fP 2 n (C)) n = fr ∧ ∀ yy, (C) yy ≤ i + 1) := ⟨I5, HI4.out.2⟩
            have ck : ∀ m, (w5.drewN m).cell? ⟨bs, k, none⟩ = some (.int .i64 0) := fun m => by have := I5.on.cell k hkn; rw [HV.out] at this; exact this
            have kC : Aside (∀ m, Calls Tryd.prog 26 #[.pointer (some ⟨p, 0, none⟩), .int .i64 (k : Int)] (w5.drewN m) fun e w'' => e = .returned (.int .i64 0) ∧ w'' = w5.drewN m) := fun m => by
              have := kcount_any (I5.kps ((Kp.refl w5).drewN m)).fk (k : Int) (wf_nat (by omega))
              rw [cI_nat, HV.out] at this
              exact this
            clear d5 HI4 k5 I5 HV
            go_wp2_with fail
            go_quiet (first | (go_at_call 26; go_must (exact (kC.out _).mono fun e w' h => ⟨h.1, _, h.2⟩)))
            rename_i nq
            have HI6 : Hid (LI w (w5.drewN nq) bs p pm n ops (B) (C) ∧ cnt (fP 2 n (C)) n = fr ∧ ∀ yy, (C) yy ≤ i + 1) := ⟨HI5.out.1.kps ((Kp.refl w5).drewN _), HI5.out.2⟩
            clear HI5 kC ck
            go_wp2
            go_roundg (81 - (i + 1))
            case measure => omega
            case rel => exact ⟨i + 1, fr, ops, B, C, rfl, by go_num, by omega, by omega, by omega, by omega, HI6⟩
          · rw [decide_eq_true (by omega), if_pos rfl, if_pos rfl, if_pos rfl] at k3
            go_wp2_with fail
            with_reducible refine k3.mono ?_
            rintro e w4 ⟨rfl, f4, q4⟩
            have o4 := HI.out.1.mid q4
            have cs := o4.cell k hkn
            have fs := o4.frz k
            have o5 := o4.set k (C k + 1)
            rw [show ((C k + 1 : Nat) : Int) = (C k : Int) + 1 by omega] at o5 ⊢
            have y4 : (0 : Int) < (C k : Nat) := by omega
            have y4n : 0 < C k := by omega
            have y5 : ((C k : Nat) : Int) ≤ 80 := by omega
            have HI4 : Hid (LI w (w4.setCell ⟨bs, k, none⟩ (.int .i64 ((C k : Int) + 1))) bs p pm n ops B (putC C k (C k + 1)) ∧ cnt (fP 2 n (putC C k (C k + 1))) n = fr ∧ ∀ x, putC C k (C k + 1) x ≤ i + 1) := ⟨⟨f4.row _ HI.out.1.bl (.inr rfl), o5, HI.out.1.bl, fun j hj => by
                rw [HI.out.1.cl j hj]
                by_cases e : j = k
                · subst e; rw [putC_same, decide_eq_false e0, decide_eq_false (by omega)]
                · rw [putC_other _ _ e], fun j hj => by rw [putC_other _ _ (by omega)]; exact HI.out.1.t2 j hj⟩, by rw [fP_same e0 (by omega)]; exact HI.out.2.1, fun y => by unfold putC; split; omega; exact Nat.le_succ_of_le (HI.out.2.2 y)⟩
            obtain ⟨cv, hcv⟩ : ∃ cv, C k = cv := ⟨_, rfl⟩
            rw [hcv] at HI4 y4 y4n y5 cs hC e0 ⊢
            obtain ⟨C2, hC2⟩ : ∃ C2, C2 = putC C k (cv + 1) := ⟨_, rfl⟩
            have HV : Hid (C2 k = cv + 1) := by rw [hC2]; exact putC_same _ _ _
            rw [← hC2] at HI4
            clear f4 q4 k3 HI o4 o5 e0 hcv hC2
            have k5 := kfree_any HI4.out.1.fk
            rw [HI4.out.1.cnt2, HI4.out.2.1, show ((2 : Nat) : Int) = 2 from rfl] at k5
            go_wp2_with fail
            with_reducible refine k5.mono ?_
            rintro e w5 ⟨rfl, d5⟩
            have I5 := HI4.out.1.kps d5.kp
            have HI5 : Hid (LI w w5 bs p pm n ops (B) (C2) ∧ cnt (fP 2 n (C2)) n = fr ∧ ∀ yy, (C2) yy ≤ i + 1) := ⟨I5, HI4.out.2⟩
            have ck : ∀ m, (w5.drewN m).cell? ⟨bs, k, none⟩ = some (.int .i64 (cv + 1 : Nat)) := fun m => by have := I5.on.cell k hkn; rw [HV.out] at this; exact this
            have kC : Aside (∀ m, Calls Tryd.prog 26 #[.pointer (some ⟨p, 0, none⟩), .int .i64 (k : Int)] (w5.drewN m) fun e w'' => e = .returned (.int .i64 (cv + 1 : Nat)) ∧ w'' = w5.drewN m) := fun m => by
              have := kcount_any (I5.kps ((Kp.refl w5).drewN m)).fk (k : Int) (wf_nat (by omega))
              rw [cI_nat, HV.out] at this
              exact this
            clear d5 HI4 k5 I5 HV
            go_wp2_with fail
            go_quiet (first | (go_at_call 26; go_must (exact (kC.out _).mono fun e w' h => ⟨h.1, _, h.2⟩)))
            rename_i nq
            have HI6 : Hid (LI w (w5.drewN nq) bs p pm n ops (B) (C2) ∧ cnt (fP 2 n (C2)) n = fr ∧ ∀ yy, (C2) yy ≤ i + 1) := ⟨HI5.out.1.kps ((Kp.refl w5).drewN _), HI5.out.2⟩
            clear HI5 kC ck
            go_wp2
            go_roundg (81 - (i + 1))
            case measure => omega
            case rel => exact ⟨i + 1, fr, ops, B, C2, rfl, by go_num, by omega, by omega, by omega, by omega, HI6⟩
      · as_aux_lemma =>
          rw [show ((3 : Nat) : Int) = 3 from rfl] at g0
          have k3 := kdrop_any HI.out.1.fk (k : Int) (wf_nat (by omega))
          have hC := HI.out.2.2 k
          unfold dropN dropE dropC dropB at k3
          rw [cI_nat, Int.toNat_natCast] at k3
          by_cases e0 : C k = 0
          · rw [if_pos e0, if_neg (by omega), if_pos e0, show C k - 1 = 0 by omega] at k3
            rw [show ((0 : Nat) : Int) = 0 from rfl] at k3
            go_wp2_with fail
            with_reducible refine k3.mono ?_
            rintro e w4 ⟨rfl, f4, q4⟩
            have o4 := HI.out.1.mid q4
            have cs := o4.cell k hkn
            rw [e0, show ((0 : Nat) : Int) = 0 from rfl] at cs
            have HI4 : Hid (LI w w4 bs p pm n ops B C ∧ cnt (fP 2 n C) n = fr ∧ ∀ x, C x ≤ i + 1) := ⟨⟨f4, o4, HI.out.1.bl, HI.out.1.cl, HI.out.1.t2⟩, HI.out.2.1, fun x => Nat.le_succ_of_le (HI.out.2.2 x)⟩
            clear f4 q4 k3 HI o4 e0
            go_wp2
            go_roundg (81 - (i + 1))
            case measure => omega
            case rel => exact ⟨i + 1, fr, ops, _, C, rfl, by go_num, by omega, by omega, by omega, by omega, HI4⟩
          · by_cases e1 : C k = 1
            · rw [if_neg e0, if_pos e1, if_neg e0, show C k - 1 = 0 by omega] at k3
              rw [show ((0 : Nat) : Int) = 0 from rfl] at k3
              go_wp2_with fail
              with_reducible refine k3.mono ?_
              rintro e w4 ⟨rfl, f4, q4⟩
              have o4 := HI.out.1.mid q4
              have cs := o4.cell k hkn
              have fs := o4.frz k
              rw [e1, show ((1 : Nat) : Int) = 1 from rfl] at cs
              have o5 := o4.set k 0
              rw [show ((0 : Nat) : Int) = 0 from rfl] at o5
              have HI4 : Hid (LI w (w4.setCell ⟨bs, k, none⟩ (.int .i64 0)) bs p pm n ops (putFr B k z0) (putC C k 0) ∧ cnt (fP 2 n (putC C k 0)) n = fr + 1 ∧ ∀ x, putC C k 0 x ≤ i + 1) := ⟨⟨f4.row _ HI.out.1.bl (.inr rfl), o5, HI.out.1.bl, fun j hj => by
                  by_cases e : j = k
                  · subst e; rw [putC_same, clear_zero hj (putFr_same _ _ _)]; rfl
                  · rw [putC_other _ _ e, clear_like (putFr_other _ _ _ _ e), HI.out.1.cl j hj], fun j hj => by rw [putC_other _ _ (by omega)]; exact HI.out.1.t2 j hj⟩, by
                  rw [fP_zero (by omega) hkn, cnt_addF (fun j hj => by rw [Nat.pow_zero, Nat.div_one] at hj; subst hj; unfold fP; rw [decide_eq_false e0, Bool.and_false]) (by omega), HI.out.2.1], fun y => by unfold putC; split; omega; exact Nat.le_succ_of_le (HI.out.2.2 y)⟩
              have kcl := kclear_any HI4.out.1.fk (k : Int) (wf_nat (by omega))
              rw [HI4.out.1.cl k hkn, putC_same, decide_eq_true rfl] at kcl
              obtain ⟨C2, hC2⟩ : ∃ C2, C2 = putC C k 0 := ⟨_, rfl⟩
              obtain ⟨B2, hB2⟩ : ∃ B2, B2 = putFr B k z0 := ⟨_, rfl⟩
              have HV : Hid (C2 k = 0) := by rw [hC2]; exact putC_same _ _ _
              rw [← hC2, ← hB2] at HI4
              have hfl : fr + 1 ≤ 70 := by
                rw [← HI4.out.2.1]; exact Nat.le_trans (cnt_le _ _) (by omega)
              have y4 : (fr : Int) + 1 ≤ 70 := by omega
              clear f4 q4 k3 HI o4 o5 e0 e1 hC2 hB2
              go_wp2_with (go_at_call 28; with_reducible refine kcl.mono ?_; rintro e w' ⟨rfl, rfl⟩)
              clear kcl
              have k5 := kfree_any HI4.out.1.fk
              rw [HI4.out.1.cnt2, HI4.out.2.1, show ((2 : Nat) : Int) = 2 from rfl, show ((fr + 1 : Nat) : Int) = (fr : Int) + 1 by omega] at k5
              go_wp2_with fail
              with_reducible refine k5.mono ?_
              rintro e w5 ⟨rfl, d5⟩
              have I5 := HI4.out.1.kps d5.kp
              have HI5 : Hid (LI w w5 bs p pm n ops (B2) (C2) ∧ cnt (fP 2 n (C2)) n = fr + 1 ∧ ∀ yy, (C2) yy ≤ i + 1) := ⟨I5, HI4.out.2⟩
              have ck : ∀ m, (w5.drewN m).cell? ⟨bs, k, none⟩ = some (.int .i64 0) := fun m => by have := I5.on.cell k hkn; rw [HV.out] at this; exact this
              have kC : Aside (∀ m, Calls Tryd.prog 26 #[.pointer (some ⟨p, 0, none⟩), .int .i64 (k : Int)] (w5.drewN m) fun e w'' => e = .returned (.int .i64 0) ∧ w'' = w5.drewN m) := fun m => by
                have := kcount_any (I5.kps ((Kp.refl w5).drewN m)).fk (k : Int) (wf_nat (by omega))
                rw [cI_nat, HV.out] at this
                exact this
              clear d5 HI4 k5 I5 HV
              go_wp2_with fail
              go_quiet (first | (go_at_call 26; go_must (exact (kC.out _).mono fun e w' h => ⟨h.1, _, h.2⟩)))
              rename_i nq
              have HI6 : Hid (LI w (w5.drewN nq) bs p pm n ops (B2) (C2) ∧ cnt (fP 2 n (C2)) n = fr + 1 ∧ ∀ yy, (C2) yy ≤ i + 1) := ⟨HI5.out.1.kps ((Kp.refl w5).drewN _), HI5.out.2⟩
              clear HI5 kC ck
              go_wp2
              go_roundg (81 - (i + 1))
              case measure => omega
              case rel => exact ⟨i + 1, fr + 1, ops, B2, C2, by go_num, by go_num, by omega, by omega, by omega, by omega, HI6⟩
            · rw [if_neg e0, if_neg e1, if_neg e0] at k3
              obtain ⟨cv, hcv⟩ : ∃ cv, C k = cv + 2 := ⟨C k - 2, by omega⟩
              rw [hcv, show cv + 2 - 1 = cv + 1 by omega] at k3
              rw [show ((cv + 1 : Nat) : Int) = (cv : Int) + 1 by omega] at k3
              go_wp2_with fail
              with_reducible refine k3.mono ?_
              rintro e w4 ⟨rfl, f4, q4⟩
              have o4 := HI.out.1.mid q4
              have cs := o4.cell k hkn
              have fs := o4.frz k
              have o5 := o4.set k (cv + 1)
              rw [hcv, show ((cv + 2 : Nat) : Int) = (cv : Int) + 2 by omega] at cs
              rw [show ((cv + 1 : Nat) : Int) = (cv : Int) + 1 by omega] at o5
              have y4 : (0 : Int) < (cv : Int) + 2 := by omega
              have y5 : (cv : Int) ≤ 80 := by omega
              have y6 : ¬ (cv : Int) + 1 = 0 := by omega
              have y7 : (cv : Int) + 2 - 1 = (cv : Int) + 1 := by omega
              have HI4 : Hid (LI w (w4.setCell ⟨bs, k, none⟩ (.int .i64 ((cv : Int) + 1))) bs p pm n ops B (putC C k (cv + 1)) ∧ cnt (fP 2 n (putC C k (cv + 1))) n = fr ∧ ∀ x, putC C k (cv + 1) x ≤ i + 1) := ⟨⟨f4.row _ HI.out.1.bl (.inr rfl), o5, HI.out.1.bl, fun j hj => by
                  rw [HI.out.1.cl j hj]
                  by_cases e : j = k
                  · subst e; rw [putC_same, decide_eq_false e0, decide_eq_false (by omega)]
                  · rw [putC_other _ _ e], fun j hj => by rw [putC_other _ _ (by omega)]; exact HI.out.1.t2 j hj⟩, by rw [fP_same e0 (by omega)]; exact HI.out.2.1, fun y => by unfold putC; split; omega; exact Nat.le_succ_of_le (HI.out.2.2 y)⟩
              have kcl := kclear_any HI4.out.1.fk (k : Int) (wf_nat (by omega))
              rw [HI4.out.1.cl k hkn, putC_same, decide_eq_false (by omega)] at kcl
              obtain ⟨C2, hC2⟩ : ∃ C2, C2 = putC C k (cv + 1) := ⟨_, rfl⟩
              have HV : Hid (C2 k = cv + 1) := by rw [hC2]; exact putC_same _ _ _
              rw [← hC2] at HI4
              clear f4 q4 k3 HI o4 o5 e0 e1 hC2 hcv hC
              go_wp2_with (go_at_call 28; with_reducible refine kcl.mono ?_; rintro e w' ⟨rfl, rfl⟩)
              clear kcl
              have k5 := kfree_any HI4.out.1.fk
              rw [HI4.out.1.cnt2, HI4.out.2.1, show ((2 : Nat) : Int) = 2 from rfl] at k5
              go_wp2_with fail
              with_reducible refine k5.mono ?_
              rintro e w5 ⟨rfl, d5⟩
              have I5 := HI4.out.1.kps d5.kp
              have HI5 : Hid (LI w w5 bs p pm n ops (B) (C2) ∧ cnt (fP 2 n (C2)) n = fr ∧ ∀ yy, (C2) yy ≤ i + 1) := ⟨I5, HI4.out.2⟩
              have ck : ∀ m, (w5.drewN m).cell? ⟨bs, k, none⟩ = some (.int .i64 (cv + 1 : Nat)) := fun m => by have := I5.on.cell k hkn; rw [HV.out] at this; exact this
              have kC : Aside (∀ m, Calls Tryd.prog 26 #[.pointer (some ⟨p, 0, none⟩), .int .i64 (k : Int)] (w5.drewN m) fun e w'' => e = .returned (.int .i64 (cv + 1 : Nat)) ∧ w'' = w5.drewN m) := fun m => by
                have := kcount_any (I5.kps ((Kp.refl w5).drewN m)).fk (k : Int) (wf_nat (by omega))
                rw [cI_nat, HV.out] at this
                exact this
              clear d5 HI4 k5 I5 HV
              go_wp2_with fail
              go_quiet (first | (go_at_call 26; go_must (exact (kC.out _).mono fun e w' h => ⟨h.1, _, h.2⟩)))
              rename_i nq
              have HI6 : Hid (LI w (w5.drewN nq) bs p pm n ops (B) (C2) ∧ cnt (fP 2 n (C2)) n = fr ∧ ∀ yy, (C2) yy ≤ i + 1) := ⟨HI5.out.1.kps ((Kp.refl w5).drewN _), HI5.out.2⟩
              clear HI5 kC ck
              go_wp2
              go_roundg (81 - (i + 1))
              case measure => omega
              case rel => exact ⟨i + 1, fr, ops, B, C2, rfl, by go_num, by omega, by omega, by omega, by omega, HI6⟩
    · have kt := ftold_any wr HI.out.1.fk.tab
      have HK : Hid (Kp w wr) := HI.out.1.fk.kp
      clear HI
      by_cases c1 : i < mc
      · have y1 : (i : Int) < mc := by omega
        have y2 : ¬ (i : Int) < 80 := by omega
        go_wp2_with fail
        with_reducible refine kt.mono ?_
        rintro e w9 ⟨rfl, K9⟩
        have HK2 : Hid (Kp w w9) := HK.out.trans K9
        clear K9 kt
        go_wp2
        go_ret
        exact ⟨rfl, HK2.out⟩
      · have y1 : ¬ (i : Int) < mc := by omega
        go_wp2_with fail
        with_reducible refine kt.mono ?_
        rintro e w9 ⟨rfl, K9⟩
        have HK2 : Hid (Kp w w9) := HK.out.trans K9
        clear K9 kt
        go_wp2
        go_ret
        exact ⟨rfl, HK2.out⟩
theorem clean_any (a0 : Int) (nc : Option Addr) (mc capc : Nat) (V : Nat → Int × Int × Int) (w : World) (CI : Steps w nc mc V) (T : TAB w) :
    Calls Tryd.prog 4 #[.int .i64 a0, .slice nc mc capc] w fun e w' => e = .returned (.bool true) ∧ Kp w w' := by
  obtain ⟨m0, e1, l1⟩ := and_lim a0 63 (by omega)
  exact clean_walk a0 m0 (4 + m0) nc mc capc V w CI T e1 (by omega) (by omega) (by omega)
end Go.Proofs.YtjnkmmfppkpgbaaDoor
