/- FramesPlays: the walk. -/
import Derived.Test.YtjnkmmfppkpgbaaDoorW84
import Derived.Test.YtjnkmmfppkpgbaaDoorS3
import Derived.Deep.CutBlock
namespace Go.Proofs.YtjnkmmfppkpgbaaDoor
open Go.RowKit Go.Maps
set_option maxRecDepth 10000

theorem got_wf {pool N o : Nat} {F : Nat → Bool} {r : Option Nat} (h : 1 ≤ pool ∧ pool < N ∧ N ≤ 1048576) (hr : TkR F o r) (hF : ∀ k, F k = true → k < N) : (Lit.int .i64 ((gotX r : Nat) : Int)).wf = true := by
  match r, hr with
  | none, _ => decide
  | some x, hr =>
    have := hF x (hr.blk.2 x (Nat.le_refl _) (by have := Nat.two_pow_pos o; omega))
    exact wf_nat (x := x) (by omega)
theorem gotT_wf {pool N o : Nat} {C : Nat → Nat} {r : Option Nat} (h : 1 ≤ pool ∧ pool < N ∧ N ≤ 1048576) (hr : TkR (fT pool C) o r) : (Lit.int .i64 ((gotX r : Nat) : Int)).wf = true := got_wf h hr (fun k hk => Nat.lt_trans (fT_dom _ _ k hk) h.2.1)
theorem gotP_wf {pool N o : Nat} {C : Nat → Nat} {r : Option Nat} (h : 1 ≤ pool ∧ pool < N ∧ N ≤ 1048576) (hr : TkR (fP pool N C) o r) : (Lit.int .i64 ((gotX r : Nat) : Int)).wf = true := got_wf h hr (fP_dom _ _ _)
theorem ref_wf {C : Nat → Nat} (h : ∀ x, C x ≤ 1073741824) (x : Int) : (Lit.int .i64 ((refN C x : Nat) : Int)).wf = true := by
  have := cI_le h x
  unfold refN
  split
  · exact WalkArith.wf_i64 (by omega)
  · decide
theorem drop_wf {C : Nat → Nat} (h : ∀ x, C x ≤ 1073741824) (x : Int) : (Lit.int .i64 ((dropN C x : Nat) : Int)).wf = true := by
  have := cI_le h x
  unfold dropN
  exact WalkArith.wf_i64 (by omega)

set_option maxHeartbeats 64000000 in
set_option maxRecDepth 1000000 in
theorem plays8_walk (N pool : Nat) (nc : Option Addr) (mc capc : Nat) (V : Nat → Int × Int × Int) (w : World) (CI : Steps w nc mc V) (T : TAB w) (h1 : 1 ≤ N) (h2 : N ≤ 1100) (p1 : 1 ≤ pool) (p2 : pool ≤ 4096) (p3 : pool < N) :
    Calls Tryd.prog 3 #[.int .i64 (N : Int), .int .i64 (pool : Int), .slice nc mc capc] w fun e w' => e = .returned (.bool true) ∧ Kp w w' := by
  have k1 := new_ok N w h1 (by omega)
  have k2 : Aside (∀ w, Calls Tryd.prog 9 #[.int .i64 (N : Int)] w fun e w' => ∃ q T, e = .returned (.tuple #[.pointer (some ⟨q, 0, none⟩), .int .i64 0]) ∧ RM w' T q N 0 (fun _ => z0) ∧ Kp w w' ∧ ∀ k, T k → w.heap.size ≤ k) := fun w => rnew_ok N w h1 (by omega)
  have CC : Aside (Steps w nc mc V) := CI
  have HT : Hid (TAB w) := T
  have z1 : (N : Int) ≤ 1100 := by omega
  have z2 : (1 : Int) ≤ N := by omega
  clear CI T
  go_enter Tryd.func3, Tryd.ntmps3
  go_wp2_with fail
  with_reducible refine k1.mono ?_
  rintro e w1 ⟨pm, M, rfl, m, kk, mn⟩
  have k3 := k2.out w1
  have H1 : Hid (PM w1 M pm N 0 (fun _ => z0) ∧ Kp w w1 ∧ ∀ k, M k → w.heap.size ≤ k) := ⟨m, kk, mn⟩
  clear m kk mn k1 k2
  go_wp2_with fail
  with_reducible refine k3.mono ?_
  rintro e w2 ⟨qm, TT, rfl, m, kk, mn⟩
  have k4 := tnew_ok (H1.out.2.1.trans kk) HT.out (H1.out.1.kp kk) m H1.out.2.2 (fun k hk => Nat.le_trans H1.out.2.1.size (mn k hk)) (fun k hk ht => by have := H1.out.1.own k hk; have := mn k ht; omega) pool p1 p2 p3
  clear m kk mn k3 H1
  go_wp2_with fail
  with_reducible refine k4.mono ?_
  rintro e w3 ⟨p, rfl, k5⟩
  clear k4
  go_wp2_with fail
  with_reducible refine k5.mono ?_
  rintro e w4 ⟨f, rfl, t4⟩
  have I0 : Hid (TW w (fun _ => False) w4 p f pm qm N pool 0 (fun _ => z0) (fun _ => 0) 0 (fun _ => z0) (fun _ => 0)) := t4
  clear t4 k5
  go_wp2_with fail
  go_loopg [15] 51 (fun g v15 wr => ∃ (i o1 o2 : Nat) (B : Nat → Nat → Nat) (C : Nat → Nat), v15 = .int .i64 (i : Int) ∧ i ≤ 50 ∧ o1 ≤ i ∧ o2 ≤ i ∧ 51 - i ≤ g ∧ Hid (TW w (fun _ => False) wr p f pm qm N pool o1 B C o2 B C))
  case atStart => exact ⟨0, 0, 0, _, _, rfl, by omega, by omega, by omega, by omega, I0⟩
  case round =>
    clear I0
    obtain ⟨i, o1, o2, B, C, rfl, hi, ho1, ho2, hg, HI⟩ := hrel
    by_cases hlt : i < mc ∧ i < 50
    · have y1 : (i : Int) < mc := by omega
      have y2 : (i : Int) < 50 := by omega
      obtain ⟨⟨cb, co, rfl, d0, c0, c1, c2⟩, v1, v2, v3⟩ := CC.out i hlt.1
      have hcf : Hid ((Lit.int .i64 (V i).2.1).wf = true) := v2
      have x0 := (HI.out.kp.cell (p := ⟨cb, co + i * 3, none⟩) d0).trans c0
      have x1 := (HI.out.kp.cell (p := ⟨cb, co + i * 3 + 1, none⟩) d0).trans c1
      have x2 := (HI.out.kp.cell (p := ⟨cb, co + i * 3 + 2, none⟩) d0).trans c2
      clear v1 v2 v3 c0 c1 c2
      generalize (V i).1 = ck at *
      generalize (V i).2.1 = cf at *
      generalize (V i).2.2 = ca at *
      go_upto_region 17 with fail
      obtain ⟨Bo, hBo⟩ : ∃ Bo, Bo = wr.heap.size := ⟨_, rfl⟩
      obtain ⟨W1, hW1⟩ : ∃ W1, W1 = wr.alloc (.cells #[.int .i64 ck, .int .i64 cf, .int .i64 ca] 38) := ⟨_, rfl⟩
      have HJ0 : Hid (TJ w W1 p f pm qm N pool o1 B C o2 B C Bo ck cf ca) := by
        show TJ w W1 p f pm qm N pool o1 B C o2 B C Bo ck cf ca
        rw [hW1, hBo]; exact TJ.made HI.out
      rw [← hW1, ← hBo]
      have c0 := HJ0.out.c0
      clear hW1 hBo HI x0 x1 x2
      obtain ⟨t, κ, g1, g2, g3, g4, g5⟩ := place_of ck 8 (by decide)
      rw [show ((8 : Nat) : Int) = 8 from rfl] at g1 g2 g3 g4
      have hq : κ = 0 ∨ κ = 1 ∨ κ = 2 ∨ κ = 3 ∨ κ = 4 ∨ κ = 5 ∨ κ = 6 ∨ κ = 7 := by omega
      clear g5
      rcases hq with rfl | rfl | rfl | rfl | rfl | rfl | rfl | rfl
      · as_aux_lemma =>
          rw [show ((0 : Nat) : Int) = 0 from rfl] at g4
          obtain ⟨r, hr⟩ := tkr_ex (fT pool C) 0
          have k3 := tpt HJ0.out.tw r hr
          have K4 : Aside (∀ w', TW w (fun i => False ∨ i = Bo) w' p f pm qm N pool o1 (gotB B r 1) (gotC C r 1) o2 B C → _) := fun w' t => tdt t r hr
          have hA : Hid ((Lit.int .i64 ((gotX r : Nat) : Int)).wf = true) := gotT_wf HJ0.out.tw.nums hr
          generalize gotX r = av at *
          generalize gotE r 11 = ev at *
          generalize gotB B r 1 = B2 at *
          generalize gotC C r 1 = C2 at *
          clear hr
          go_wp2_with fail
          with_reducible refine k3.mono ?_
          rintro e w4 ⟨rfl, t4, q4⟩
          have k5 := K4.out w4 t4
          have HJ4 : Hid (TJ w w4 p f pm qm N pool o1 B2 C2 o2 B C Bo ck cf ca) := HJ0.out.next t4 q4
          clear t4 q4 k3 K4 HJ0 c0
          go_wp2_with fail
          with_reducible refine k5.mono ?_
          rintro e w5 ⟨rfl, t5, q5⟩
          have HJ : Hid (TJ w w5 p f pm qm N pool o1 B2 C2 o2 B2 C2 Bo ck cf ca) := HJ4.out.next t5 q5
          clear t5 q5 k5 HJ4
          obtain ⟨cn, hcn⟩ : ∃ cn, cnt (fP pool N C2) N = cn := ⟨_, rfl⟩
          obtain ⟨ct, hct⟩ : ∃ ct, cnt (fT pool C2) pool = ct := ⟨_, rfl⟩
          have HCN : Hid (cnt (fP pool N C2) N = cn ∧ cnt (fT pool C2) pool = ct) := ⟨hcn, hct⟩
          have k6 := tpf HJ.out.tw
          rw [hcn, hct] at k6
          clear hcn hct
          go_wp2_with fail
          with_reducible refine k6.mono ?_
          rintro e w6 ⟨rfl, d6⟩
          have HJ6 : Hid (TJ w w6 p f pm qm N pool (o1) B2 C2 (o2) B2 C2 Bo ck cf ca) := HJ.out.kps d6.kp
          have k7 := tdf HJ6.out.tw
          rw [HCN.out.1, HCN.out.2] at k7
          clear d6 k6 HJ HCN
          go_wp2_with fail
          with_reducible refine k7.mono ?_
          rintro e w7 ⟨rfl, d7⟩
          have HJ7 : Hid (TJ w w7 p f pm qm N pool (o1) B2 C2 (o2) B2 C2 Bo ck cf ca) := HJ6.out.kps d7.kp
          clear d7 k7 HJ6
          have c1 : ∀ m, (w7.drewN m).cell? ⟨Bo, 1, none⟩ = some (.int .i64 cf) := fun m => HJ7.out.c1
          have KD : Aside (∀ m, TJ w (w7.drewN m) p f pm qm N pool (o1) B2 C2 (o2) B2 C2 Bo ck cf ca) := fun m => HJ7.out.kps ((Kp.refl w7).drewN m)
          have kA : ∀ m, Calls Tryd.prog 26 #[.pointer (some ⟨p, 0, none⟩), .int .i64 cf] (w7.drewN m) fun e w'' => e = .returned (.int .i64 (cI C2 cf : Nat)) ∧ ∃ q, w'' = w7.drewN q := fun m => (tpc (KD.out m).tw cf hcf.out).mono fun e w'' ⟨a, c⟩ => ⟨a, m, c⟩
          have kB : ∀ m, Calls Tryd.prog 27 #[.pointer (some ⟨f, 0, none⟩), .int .i64 cf] (w7.drewN m) fun e w'' => e = .returned (.int .i64 (cI C2 cf : Nat)) ∧ ∃ q, w'' = w7.drewN q := fun m => (tdc (KD.out m).tw cf hcf.out).mono fun e w'' ⟨a, c⟩ => ⟨a, m, c⟩
          have kC : ∀ m, Calls Tryd.prog 28 #[.pointer (some ⟨pm, 0, none⟩), .int .i64 cf] (w7.drewN m) fun e w'' => e = .returned (.bool (clearF N B2 cf)) ∧ ∃ q, w'' = w7.drewN q := fun m => (tpz (KD.out m).tw cf hcf.out).mono fun e w'' ⟨a, c⟩ => ⟨a, m, c⟩
          have kD : ∀ m, Calls Tryd.prog 29 #[.pointer (some ⟨qm, 0, none⟩), .int .i64 cf] (w7.drewN m) fun e w'' => e = .returned (.bool (clearF N B2 cf)) ∧ ∃ q, w'' = w7.drewN q := fun m => (tdz (KD.out m).tw cf hcf.out).mono fun e w'' ⟨a, c⟩ => ⟨a, m, c⟩
          have kE : ∀ m, Calls Tryd.prog 28 #[.pointer (some ⟨pm, 0, none⟩), .int .i64 (av : Int)] (w7.drewN m) fun e w'' => e = .returned (.bool (clearF N B2 (av : Int))) ∧ ∃ q, w'' = w7.drewN q := fun m => (tpz (KD.out m).tw _ hA.out).mono fun e w'' ⟨a, c⟩ => ⟨a, m, c⟩
          have kF : ∀ m, Calls Tryd.prog 29 #[.pointer (some ⟨qm, 0, none⟩), .int .i64 (av : Int)] (w7.drewN m) fun e w'' => e = .returned (.bool (clearF N B2 (av : Int))) ∧ ∃ q, w'' = w7.drewN q := fun m => (tdz (KD.out m).tw _ hA.out).mono fun e w'' ⟨a, c⟩ => ⟨a, m, c⟩
          generalize cI C2 cf = cc at *
          generalize clearF N B2 cf = b1 at *
          generalize clearF N B2 (av : Int) = b2 at *
          clear HJ7
          go_wp2_with fail
          go_quiet (first | (go_at_call 26; go_must (exact kA _)) | (go_at_call 27; go_must (exact kB _)) | (go_at_call 28; go_must (first | with_reducible exact kC _ | with_reducible exact kE _)) | (go_at_call 29; go_must (first | with_reducible exact kD _ | with_reducible exact kF _)))
          rename_i nq
          have HI9 : Hid (TW w (fun _ => False) (w7.drewN nq) p f pm qm N pool (o1) B2 C2 (o2) B2 C2) := (KD.out nq).tw.less (fun _ h => h.elim)
          clear KD kA kB kC kD kE kF c1
          go_wp2
          go_roundg (51 - (i + 1))
          case measure => omega
          case rel => exact ⟨i + 1, _, _, _, _, by go_num, by omega, by omega, by omega, by omega, HI9⟩
      · as_aux_lemma =>
          rw [show ((1 : Nat) : Int) = 1 from rfl] at g4
          obtain ⟨r, hr⟩ := tkr_ex (fP pool N C) 0
          have k3 := tpp HJ0.out.tw r hr
          have K4 : Aside (∀ w', TW w (fun i => False ∨ i = Bo) w' p f pm qm N pool o1 (gotB B r 1) (gotC C r 1) o2 B C → _) := fun w' t => tdp t r hr
          have hA : Hid ((Lit.int .i64 ((gotX r : Nat) : Int)).wf = true) := gotP_wf HJ0.out.tw.nums hr
          generalize gotX r = av at *
          generalize gotE r 10 = ev at *
          generalize gotB B r 1 = B2 at *
          generalize gotC C r 1 = C2 at *
          clear hr
          go_wp2_with fail
          with_reducible refine k3.mono ?_
          rintro e w4 ⟨rfl, t4, q4⟩
          have k5 := K4.out w4 t4
          have HJ4 : Hid (TJ w w4 p f pm qm N pool o1 B2 C2 o2 B C Bo ck cf ca) := HJ0.out.next t4 q4
          clear t4 q4 k3 K4 HJ0 c0
          go_wp2_with fail
          with_reducible refine k5.mono ?_
          rintro e w5 ⟨rfl, t5, q5⟩
          have HJ : Hid (TJ w w5 p f pm qm N pool o1 B2 C2 o2 B2 C2 Bo ck cf ca) := HJ4.out.next t5 q5
          clear t5 q5 k5 HJ4
          obtain ⟨cn, hcn⟩ : ∃ cn, cnt (fP pool N C2) N = cn := ⟨_, rfl⟩
          obtain ⟨ct, hct⟩ : ∃ ct, cnt (fT pool C2) pool = ct := ⟨_, rfl⟩
          have HCN : Hid (cnt (fP pool N C2) N = cn ∧ cnt (fT pool C2) pool = ct) := ⟨hcn, hct⟩
          have k6 := tpf HJ.out.tw
          rw [hcn, hct] at k6
          clear hcn hct
          go_wp2_with fail
          with_reducible refine k6.mono ?_
          rintro e w6 ⟨rfl, d6⟩
          have HJ6 : Hid (TJ w w6 p f pm qm N pool (o1) B2 C2 (o2) B2 C2 Bo ck cf ca) := HJ.out.kps d6.kp
          have k7 := tdf HJ6.out.tw
          rw [HCN.out.1, HCN.out.2] at k7
          clear d6 k6 HJ HCN
          go_wp2_with fail
          with_reducible refine k7.mono ?_
          rintro e w7 ⟨rfl, d7⟩
          have HJ7 : Hid (TJ w w7 p f pm qm N pool (o1) B2 C2 (o2) B2 C2 Bo ck cf ca) := HJ6.out.kps d7.kp
          clear d7 k7 HJ6
          have c1 : ∀ m, (w7.drewN m).cell? ⟨Bo, 1, none⟩ = some (.int .i64 cf) := fun m => HJ7.out.c1
          have KD : Aside (∀ m, TJ w (w7.drewN m) p f pm qm N pool (o1) B2 C2 (o2) B2 C2 Bo ck cf ca) := fun m => HJ7.out.kps ((Kp.refl w7).drewN m)
          have kA : ∀ m, Calls Tryd.prog 26 #[.pointer (some ⟨p, 0, none⟩), .int .i64 cf] (w7.drewN m) fun e w'' => e = .returned (.int .i64 (cI C2 cf : Nat)) ∧ ∃ q, w'' = w7.drewN q := fun m => (tpc (KD.out m).tw cf hcf.out).mono fun e w'' ⟨a, c⟩ => ⟨a, m, c⟩
          have kB : ∀ m, Calls Tryd.prog 27 #[.pointer (some ⟨f, 0, none⟩), .int .i64 cf] (w7.drewN m) fun e w'' => e = .returned (.int .i64 (cI C2 cf : Nat)) ∧ ∃ q, w'' = w7.drewN q := fun m => (tdc (KD.out m).tw cf hcf.out).mono fun e w'' ⟨a, c⟩ => ⟨a, m, c⟩
          have kC : ∀ m, Calls Tryd.prog 28 #[.pointer (some ⟨pm, 0, none⟩), .int .i64 cf] (w7.drewN m) fun e w'' => e = .returned (.bool (clearF N B2 cf)) ∧ ∃ q, w'' = w7.drewN q := fun m => (tpz (KD.out m).tw cf hcf.out).mono fun e w'' ⟨a, c⟩ => ⟨a, m, c⟩
          have kD : ∀ m, Calls Tryd.prog 29 #[.pointer (some ⟨qm, 0, none⟩), .int .i64 cf] (w7.drewN m) fun e w'' => e = .returned (.bool (clearF N B2 cf)) ∧ ∃ q, w'' = w7.drewN q := fun m => (tdz (KD.out m).tw cf hcf.out).mono fun e w'' ⟨a, c⟩ => ⟨a, m, c⟩
          have kE : ∀ m, Calls Tryd.prog 28 #[.pointer (some ⟨pm, 0, none⟩), .int .i64 (av : Int)] (w7.drewN m) fun e w'' => e = .returned (.bool (clearF N B2 (av : Int))) ∧ ∃ q, w'' = w7.drewN q := fun m => (tpz (KD.out m).tw _ hA.out).mono fun e w'' ⟨a, c⟩ => ⟨a, m, c⟩
          have kF : ∀ m, Calls Tryd.prog 29 #[.pointer (some ⟨qm, 0, none⟩), .int .i64 (av : Int)] (w7.drewN m) fun e w'' => e = .returned (.bool (clearF N B2 (av : Int))) ∧ ∃ q, w'' = w7.drewN q := fun m => (tdz (KD.out m).tw _ hA.out).mono fun e w'' ⟨a, c⟩ => ⟨a, m, c⟩
          generalize cI C2 cf = cc at *
          generalize clearF N B2 cf = b1 at *
          generalize clearF N B2 (av : Int) = b2 at *
          clear HJ7
          go_wp2_with fail
          go_quiet (first | (go_at_call 26; go_must (exact kA _)) | (go_at_call 27; go_must (exact kB _)) | (go_at_call 28; go_must (first | with_reducible exact kC _ | with_reducible exact kE _)) | (go_at_call 29; go_must (first | with_reducible exact kD _ | with_reducible exact kF _)))
          rename_i nq
          have HI9 : Hid (TW w (fun _ => False) (w7.drewN nq) p f pm qm N pool (o1) B2 C2 (o2) B2 C2) := (KD.out nq).tw.less (fun _ h => h.elim)
          clear KD kA kB kC kD kE kF c1
          go_wp2
          go_roundg (51 - (i + 1))
          case measure => omega
          case rel => exact ⟨i + 1, _, _, _, _, by go_num, by omega, by omega, by omega, by omega, HI9⟩
      · as_aux_lemma =>
          rw [show ((2 : Nat) : Int) = 2 from rfl] at g4
          obtain ⟨r, hr⟩ := tkr_ex (fP pool N C) 0
          have k3 := tpp HJ0.out.tw r hr
          have K4 : Aside (∀ w', TW w (fun i => False ∨ i = Bo) w' p f pm qm N pool o1 (gotB B r 1) (gotC C r 1) o2 B C → _) := fun w' t => tdp t r hr
          have hA : Hid ((Lit.int .i64 ((gotX r : Nat) : Int)).wf = true) := gotP_wf HJ0.out.tw.nums hr
          generalize gotX r = av at *
          generalize gotE r 10 = ev at *
          generalize gotB B r 1 = B2 at *
          generalize gotC C r 1 = C2 at *
          clear hr
          go_wp2_with fail
          with_reducible refine k3.mono ?_
          rintro e w4 ⟨rfl, t4, q4⟩
          have k5 := K4.out w4 t4
          have HJ4 : Hid (TJ w w4 p f pm qm N pool o1 B2 C2 o2 B C Bo ck cf ca) := HJ0.out.next t4 q4
          clear t4 q4 k3 K4 HJ0 c0
          go_wp2_with fail
          with_reducible refine k5.mono ?_
          rintro e w5 ⟨rfl, t5, q5⟩
          have HJ : Hid (TJ w w5 p f pm qm N pool o1 B2 C2 o2 B2 C2 Bo ck cf ca) := HJ4.out.next t5 q5
          clear t5 q5 k5 HJ4
          obtain ⟨cn, hcn⟩ : ∃ cn, cnt (fP pool N C2) N = cn := ⟨_, rfl⟩
          obtain ⟨ct, hct⟩ : ∃ ct, cnt (fT pool C2) pool = ct := ⟨_, rfl⟩
          have HCN : Hid (cnt (fP pool N C2) N = cn ∧ cnt (fT pool C2) pool = ct) := ⟨hcn, hct⟩
          have k6 := tpf HJ.out.tw
          rw [hcn, hct] at k6
          clear hcn hct
          go_wp2_with fail
          with_reducible refine k6.mono ?_
          rintro e w6 ⟨rfl, d6⟩
          have HJ6 : Hid (TJ w w6 p f pm qm N pool (o1) B2 C2 (o2) B2 C2 Bo ck cf ca) := HJ.out.kps d6.kp
          have k7 := tdf HJ6.out.tw
          rw [HCN.out.1, HCN.out.2] at k7
          clear d6 k6 HJ HCN
          go_wp2_with fail
          with_reducible refine k7.mono ?_
          rintro e w7 ⟨rfl, d7⟩
          have HJ7 : Hid (TJ w w7 p f pm qm N pool (o1) B2 C2 (o2) B2 C2 Bo ck cf ca) := HJ6.out.kps d7.kp
          clear d7 k7 HJ6
          have c1 : ∀ m, (w7.drewN m).cell? ⟨Bo, 1, none⟩ = some (.int .i64 cf) := fun m => HJ7.out.c1
          have KD : Aside (∀ m, TJ w (w7.drewN m) p f pm qm N pool (o1) B2 C2 (o2) B2 C2 Bo ck cf ca) := fun m => HJ7.out.kps ((Kp.refl w7).drewN m)
          have kA : ∀ m, Calls Tryd.prog 26 #[.pointer (some ⟨p, 0, none⟩), .int .i64 cf] (w7.drewN m) fun e w'' => e = .returned (.int .i64 (cI C2 cf : Nat)) ∧ ∃ q, w'' = w7.drewN q := fun m => (tpc (KD.out m).tw cf hcf.out).mono fun e w'' ⟨a, c⟩ => ⟨a, m, c⟩
          have kB : ∀ m, Calls Tryd.prog 27 #[.pointer (some ⟨f, 0, none⟩), .int .i64 cf] (w7.drewN m) fun e w'' => e = .returned (.int .i64 (cI C2 cf : Nat)) ∧ ∃ q, w'' = w7.drewN q := fun m => (tdc (KD.out m).tw cf hcf.out).mono fun e w'' ⟨a, c⟩ => ⟨a, m, c⟩
          have kC : ∀ m, Calls Tryd.prog 28 #[.pointer (some ⟨pm, 0, none⟩), .int .i64 cf] (w7.drewN m) fun e w'' => e = .returned (.bool (clearF N B2 cf)) ∧ ∃ q, w'' = w7.drewN q := fun m => (tpz (KD.out m).tw cf hcf.out).mono fun e w'' ⟨a, c⟩ => ⟨a, m, c⟩
          have kD : ∀ m, Calls Tryd.prog 29 #[.pointer (some ⟨qm, 0, none⟩), .int .i64 cf] (w7.drewN m) fun e w'' => e = .returned (.bool (clearF N B2 cf)) ∧ ∃ q, w'' = w7.drewN q := fun m => (tdz (KD.out m).tw cf hcf.out).mono fun e w'' ⟨a, c⟩ => ⟨a, m, c⟩
          have kE : ∀ m, Calls Tryd.prog 28 #[.pointer (some ⟨pm, 0, none⟩), .int .i64 (av : Int)] (w7.drewN m) fun e w'' => e = .returned (.bool (clearF N B2 (av : Int))) ∧ ∃ q, w'' = w7.drewN q := fun m => (tpz (KD.out m).tw _ hA.out).mono fun e w'' ⟨a, c⟩ => ⟨a, m, c⟩
          have kF : ∀ m, Calls Tryd.prog 29 #[.pointer (some ⟨qm, 0, none⟩), .int .i64 (av : Int)] (w7.drewN m) fun e w'' => e = .returned (.bool (clearF N B2 (av : Int))) ∧ ∃ q, w'' = w7.drewN q := fun m => (tdz (KD.out m).tw _ hA.out).mono fun e w'' ⟨a, c⟩ => ⟨a, m, c⟩
          generalize cI C2 cf = cc at *
          generalize clearF N B2 cf = b1 at *
          generalize clearF N B2 (av : Int) = b2 at *
          clear HJ7
          go_wp2_with fail
          go_quiet (first | (go_at_call 26; go_must (exact kA _)) | (go_at_call 27; go_must (exact kB _)) | (go_at_call 28; go_must (first | with_reducible exact kC _ | with_reducible exact kE _)) | (go_at_call 29; go_must (first | with_reducible exact kD _ | with_reducible exact kF _)))
          rename_i nq
          have HI9 : Hid (TW w (fun _ => False) (w7.drewN nq) p f pm qm N pool (o1) B2 C2 (o2) B2 C2) := (KD.out nq).tw.less (fun _ h => h.elim)
          clear KD kA kB kC kD kE kF c1
          go_wp2
          go_roundg (51 - (i + 1))
          case measure => omega
          case rel => exact ⟨i + 1, _, _, _, _, by go_num, by omega, by omega, by omega, by omega, HI9⟩
      · as_aux_lemma =>
          rw [show ((3 : Nat) : Int) = 3 from rfl] at g4
          obtain ⟨r, hr⟩ := tkr_ex (fP pool N C) 9
          have k3 := tpb HJ0.out.tw r hr
          have K4 : Aside (∀ w', TW w (fun i => False ∨ i = Bo) w' p f pm qm N pool o1 (gotB B r 512) (gotC C r 512) o2 B C → _) := fun w' t => tdb t r hr
          have hA : Hid ((Lit.int .i64 ((gotX r : Nat) : Int)).wf = true) := gotP_wf HJ0.out.tw.nums hr
          generalize gotX r = av at *
          generalize gotE r 10 = ev at *
          generalize gotB B r 512 = B2 at *
          generalize gotC C r 512 = C2 at *
          clear hr
          go_wp2_with fail
          with_reducible refine k3.mono ?_
          rintro e w4 ⟨rfl, t4, q4⟩
          have k5 := K4.out w4 t4
          have HJ4 : Hid (TJ w w4 p f pm qm N pool o1 B2 C2 o2 B C Bo ck cf ca) := HJ0.out.next t4 q4
          clear t4 q4 k3 K4 HJ0 c0
          go_wp2_with fail
          with_reducible refine k5.mono ?_
          rintro e w5 ⟨rfl, t5, q5⟩
          have HJ : Hid (TJ w w5 p f pm qm N pool o1 B2 C2 o2 B2 C2 Bo ck cf ca) := HJ4.out.next t5 q5
          clear t5 q5 k5 HJ4
          obtain ⟨cn, hcn⟩ : ∃ cn, cnt (fP pool N C2) N = cn := ⟨_, rfl⟩
          obtain ⟨ct, hct⟩ : ∃ ct, cnt (fT pool C2) pool = ct := ⟨_, rfl⟩
          have HCN : Hid (cnt (fP pool N C2) N = cn ∧ cnt (fT pool C2) pool = ct) := ⟨hcn, hct⟩
          have k6 := tpf HJ.out.tw
          rw [hcn, hct] at k6
          clear hcn hct
          go_wp2_with fail
          with_reducible refine k6.mono ?_
          rintro e w6 ⟨rfl, d6⟩
          have HJ6 : Hid (TJ w w6 p f pm qm N pool (o1) B2 C2 (o2) B2 C2 Bo ck cf ca) := HJ.out.kps d6.kp
          have k7 := tdf HJ6.out.tw
          rw [HCN.out.1, HCN.out.2] at k7
          clear d6 k6 HJ HCN
          go_wp2_with fail
          with_reducible refine k7.mono ?_
          rintro e w7 ⟨rfl, d7⟩
          have HJ7 : Hid (TJ w w7 p f pm qm N pool (o1) B2 C2 (o2) B2 C2 Bo ck cf ca) := HJ6.out.kps d7.kp
          clear d7 k7 HJ6
          have c1 : ∀ m, (w7.drewN m).cell? ⟨Bo, 1, none⟩ = some (.int .i64 cf) := fun m => HJ7.out.c1
          have KD : Aside (∀ m, TJ w (w7.drewN m) p f pm qm N pool (o1) B2 C2 (o2) B2 C2 Bo ck cf ca) := fun m => HJ7.out.kps ((Kp.refl w7).drewN m)
          have kA : ∀ m, Calls Tryd.prog 26 #[.pointer (some ⟨p, 0, none⟩), .int .i64 cf] (w7.drewN m) fun e w'' => e = .returned (.int .i64 (cI C2 cf : Nat)) ∧ ∃ q, w'' = w7.drewN q := fun m => (tpc (KD.out m).tw cf hcf.out).mono fun e w'' ⟨a, c⟩ => ⟨a, m, c⟩
          have kB : ∀ m, Calls Tryd.prog 27 #[.pointer (some ⟨f, 0, none⟩), .int .i64 cf] (w7.drewN m) fun e w'' => e = .returned (.int .i64 (cI C2 cf : Nat)) ∧ ∃ q, w'' = w7.drewN q := fun m => (tdc (KD.out m).tw cf hcf.out).mono fun e w'' ⟨a, c⟩ => ⟨a, m, c⟩
          have kC : ∀ m, Calls Tryd.prog 28 #[.pointer (some ⟨pm, 0, none⟩), .int .i64 cf] (w7.drewN m) fun e w'' => e = .returned (.bool (clearF N B2 cf)) ∧ ∃ q, w'' = w7.drewN q := fun m => (tpz (KD.out m).tw cf hcf.out).mono fun e w'' ⟨a, c⟩ => ⟨a, m, c⟩
          have kD : ∀ m, Calls Tryd.prog 29 #[.pointer (some ⟨qm, 0, none⟩), .int .i64 cf] (w7.drewN m) fun e w'' => e = .returned (.bool (clearF N B2 cf)) ∧ ∃ q, w'' = w7.drewN q := fun m => (tdz (KD.out m).tw cf hcf.out).mono fun e w'' ⟨a, c⟩ => ⟨a, m, c⟩
          have kE : ∀ m, Calls Tryd.prog 28 #[.pointer (some ⟨pm, 0, none⟩), .int .i64 (av : Int)] (w7.drewN m) fun e w'' => e = .returned (.bool (clearF N B2 (av : Int))) ∧ ∃ q, w'' = w7.drewN q := fun m => (tpz (KD.out m).tw _ hA.out).mono fun e w'' ⟨a, c⟩ => ⟨a, m, c⟩
          have kF : ∀ m, Calls Tryd.prog 29 #[.pointer (some ⟨qm, 0, none⟩), .int .i64 (av : Int)] (w7.drewN m) fun e w'' => e = .returned (.bool (clearF N B2 (av : Int))) ∧ ∃ q, w'' = w7.drewN q := fun m => (tdz (KD.out m).tw _ hA.out).mono fun e w'' ⟨a, c⟩ => ⟨a, m, c⟩
          generalize cI C2 cf = cc at *
          generalize clearF N B2 cf = b1 at *
          generalize clearF N B2 (av : Int) = b2 at *
          clear HJ7
          go_wp2_with fail
          go_quiet (first | (go_at_call 26; go_must (exact kA _)) | (go_at_call 27; go_must (exact kB _)) | (go_at_call 28; go_must (first | with_reducible exact kC _ | with_reducible exact kE _)) | (go_at_call 29; go_must (first | with_reducible exact kD _ | with_reducible exact kF _)))
          rename_i nq
          have HI9 : Hid (TW w (fun _ => False) (w7.drewN nq) p f pm qm N pool (o1) B2 C2 (o2) B2 C2) := (KD.out nq).tw.less (fun _ h => h.elim)
          clear KD kA kB kC kD kE kF c1
          go_wp2
          go_roundg (51 - (i + 1))
          case measure => omega
          case rel => exact ⟨i + 1, _, _, _, _, by go_num, by omega, by omega, by omega, by omega, HI9⟩
      · as_aux_lemma =>
          rw [show ((4 : Nat) : Int) = 4 from rfl] at g4
          have k3 := tpr HJ0.out.tw cf hcf.out
          have K4 : Aside (∀ w', TW w (fun i => False ∨ i = Bo) w' p f pm qm N pool o1 B (refC C cf) o2 B C → _) := fun w' t => tdr t cf hcf.out
          have hA : Hid ((Lit.int .i64 ((refN C cf : Nat) : Int)).wf = true) := ref_wf HJ0.out.tw.top cf
          have c1 := HJ0.out.c1
          generalize refN C cf = av at *
          generalize refE C cf = ev at *

          generalize refC C cf = C2 at *
          go_wp2_with fail
          with_reducible refine k3.mono ?_
          rintro e w4 ⟨rfl, t4, q4⟩
          have k5 := K4.out w4 t4
          have HJ4 : Hid (TJ w w4 p f pm qm N pool o1 B C2 o2 B C Bo ck cf ca) := HJ0.out.next t4 q4
          have c1' := HJ4.out.c1
          clear t4 q4 k3 K4 HJ0 c0 c1
          go_wp2_with fail
          with_reducible refine k5.mono ?_
          rintro e w5 ⟨rfl, t5, q5⟩
          have HJ : Hid (TJ w w5 p f pm qm N pool o1 B C2 o2 B C2 Bo ck cf ca) := HJ4.out.next t5 q5
          clear t5 q5 k5 HJ4 c1'
          obtain ⟨cn, hcn⟩ : ∃ cn, cnt (fP pool N C2) N = cn := ⟨_, rfl⟩
          obtain ⟨ct, hct⟩ : ∃ ct, cnt (fT pool C2) pool = ct := ⟨_, rfl⟩
          have HCN : Hid (cnt (fP pool N C2) N = cn ∧ cnt (fT pool C2) pool = ct) := ⟨hcn, hct⟩
          have k6 := tpf HJ.out.tw
          rw [hcn, hct] at k6
          clear hcn hct
          go_wp2_with fail
          with_reducible refine k6.mono ?_
          rintro e w6 ⟨rfl, d6⟩
          have HJ6 : Hid (TJ w w6 p f pm qm N pool (o1) B C2 (o2) B C2 Bo ck cf ca) := HJ.out.kps d6.kp
          have k7 := tdf HJ6.out.tw
          rw [HCN.out.1, HCN.out.2] at k7
          clear d6 k6 HJ HCN
          go_wp2_with fail
          with_reducible refine k7.mono ?_
          rintro e w7 ⟨rfl, d7⟩
          have HJ7 : Hid (TJ w w7 p f pm qm N pool (o1) B C2 (o2) B C2 Bo ck cf ca) := HJ6.out.kps d7.kp
          clear d7 k7 HJ6
          have c1 : ∀ m, (w7.drewN m).cell? ⟨Bo, 1, none⟩ = some (.int .i64 cf) := fun m => HJ7.out.c1
          have KD : Aside (∀ m, TJ w (w7.drewN m) p f pm qm N pool (o1) B C2 (o2) B C2 Bo ck cf ca) := fun m => HJ7.out.kps ((Kp.refl w7).drewN m)
          have kA : ∀ m, Calls Tryd.prog 26 #[.pointer (some ⟨p, 0, none⟩), .int .i64 cf] (w7.drewN m) fun e w'' => e = .returned (.int .i64 (cI C2 cf : Nat)) ∧ ∃ q, w'' = w7.drewN q := fun m => (tpc (KD.out m).tw cf hcf.out).mono fun e w'' ⟨a, c⟩ => ⟨a, m, c⟩
          have kB : ∀ m, Calls Tryd.prog 27 #[.pointer (some ⟨f, 0, none⟩), .int .i64 cf] (w7.drewN m) fun e w'' => e = .returned (.int .i64 (cI C2 cf : Nat)) ∧ ∃ q, w'' = w7.drewN q := fun m => (tdc (KD.out m).tw cf hcf.out).mono fun e w'' ⟨a, c⟩ => ⟨a, m, c⟩
          have kC : ∀ m, Calls Tryd.prog 28 #[.pointer (some ⟨pm, 0, none⟩), .int .i64 cf] (w7.drewN m) fun e w'' => e = .returned (.bool (clearF N B cf)) ∧ ∃ q, w'' = w7.drewN q := fun m => (tpz (KD.out m).tw cf hcf.out).mono fun e w'' ⟨a, c⟩ => ⟨a, m, c⟩
          have kD : ∀ m, Calls Tryd.prog 29 #[.pointer (some ⟨qm, 0, none⟩), .int .i64 cf] (w7.drewN m) fun e w'' => e = .returned (.bool (clearF N B cf)) ∧ ∃ q, w'' = w7.drewN q := fun m => (tdz (KD.out m).tw cf hcf.out).mono fun e w'' ⟨a, c⟩ => ⟨a, m, c⟩
          have kE : ∀ m, Calls Tryd.prog 28 #[.pointer (some ⟨pm, 0, none⟩), .int .i64 (av : Int)] (w7.drewN m) fun e w'' => e = .returned (.bool (clearF N B (av : Int))) ∧ ∃ q, w'' = w7.drewN q := fun m => (tpz (KD.out m).tw _ hA.out).mono fun e w'' ⟨a, c⟩ => ⟨a, m, c⟩
          have kF : ∀ m, Calls Tryd.prog 29 #[.pointer (some ⟨qm, 0, none⟩), .int .i64 (av : Int)] (w7.drewN m) fun e w'' => e = .returned (.bool (clearF N B (av : Int))) ∧ ∃ q, w'' = w7.drewN q := fun m => (tdz (KD.out m).tw _ hA.out).mono fun e w'' ⟨a, c⟩ => ⟨a, m, c⟩
          generalize cI C2 cf = cc at *
          generalize clearF N B cf = b1 at *
          generalize clearF N B (av : Int) = b2 at *
          clear HJ7
          go_wp2_with fail
          go_quiet (first | (go_at_call 26; go_must (exact kA _)) | (go_at_call 27; go_must (exact kB _)) | (go_at_call 28; go_must (first | with_reducible exact kC _ | with_reducible exact kE _)) | (go_at_call 29; go_must (first | with_reducible exact kD _ | with_reducible exact kF _)))
          rename_i nq
          have HI9 : Hid (TW w (fun _ => False) (w7.drewN nq) p f pm qm N pool (o1) B C2 (o2) B C2) := (KD.out nq).tw.less (fun _ h => h.elim)
          clear KD kA kB kC kD kE kF c1
          go_wp2
          go_roundg (51 - (i + 1))
          case measure => omega
          case rel => exact ⟨i + 1, _, _, _, _, by go_num, by omega, by omega, by omega, by omega, HI9⟩
      · as_aux_lemma =>
          rw [show ((5 : Nat) : Int) = 5 from rfl] at g4
          have k3 := tpd HJ0.out.tw cf hcf.out
          have K4 : Aside (∀ w', TW w (fun i => False ∨ i = Bo) w' p f pm qm N pool o1 (dropB B C cf) (dropC C cf) o2 B C → _) := fun w' t => tdd t cf hcf.out
          have hA : Hid ((Lit.int .i64 ((dropN C cf : Nat) : Int)).wf = true) := drop_wf HJ0.out.tw.top cf
          have c1 := HJ0.out.c1
          generalize dropN C cf = av at *
          generalize dropE C cf = ev at *
          generalize (dropB B C cf) = B2 at *
          generalize dropC C cf = C2 at *
          go_wp2_with fail
          with_reducible refine k3.mono ?_
          rintro e w4 ⟨rfl, t4, q4⟩
          have k5 := K4.out w4 t4
          have HJ4 : Hid (TJ w w4 p f pm qm N pool o1 B2 C2 o2 B C Bo ck cf ca) := HJ0.out.next t4 q4
          have c1' := HJ4.out.c1
          clear t4 q4 k3 K4 HJ0 c0 c1
          go_wp2_with fail
          with_reducible refine k5.mono ?_
          rintro e w5 ⟨rfl, t5, q5⟩
          have HJ : Hid (TJ w w5 p f pm qm N pool o1 B2 C2 o2 B2 C2 Bo ck cf ca) := HJ4.out.next t5 q5
          clear t5 q5 k5 HJ4 c1'
          obtain ⟨cn, hcn⟩ : ∃ cn, cnt (fP pool N C2) N = cn := ⟨_, rfl⟩
          obtain ⟨ct, hct⟩ : ∃ ct, cnt (fT pool C2) pool = ct := ⟨_, rfl⟩
          have HCN : Hid (cnt (fP pool N C2) N = cn ∧ cnt (fT pool C2) pool = ct) := ⟨hcn, hct⟩
          have k6 := tpf HJ.out.tw
          rw [hcn, hct] at k6
          clear hcn hct
          go_wp2_with fail
          with_reducible refine k6.mono ?_
          rintro e w6 ⟨rfl, d6⟩
          have HJ6 : Hid (TJ w w6 p f pm qm N pool (o1) B2 C2 (o2) B2 C2 Bo ck cf ca) := HJ.out.kps d6.kp
          have k7 := tdf HJ6.out.tw
          rw [HCN.out.1, HCN.out.2] at k7
          clear d6 k6 HJ HCN
          go_wp2_with fail
          with_reducible refine k7.mono ?_
          rintro e w7 ⟨rfl, d7⟩
          have HJ7 : Hid (TJ w w7 p f pm qm N pool (o1) B2 C2 (o2) B2 C2 Bo ck cf ca) := HJ6.out.kps d7.kp
          clear d7 k7 HJ6
          have c1 : ∀ m, (w7.drewN m).cell? ⟨Bo, 1, none⟩ = some (.int .i64 cf) := fun m => HJ7.out.c1
          have KD : Aside (∀ m, TJ w (w7.drewN m) p f pm qm N pool (o1) B2 C2 (o2) B2 C2 Bo ck cf ca) := fun m => HJ7.out.kps ((Kp.refl w7).drewN m)
          have kA : ∀ m, Calls Tryd.prog 26 #[.pointer (some ⟨p, 0, none⟩), .int .i64 cf] (w7.drewN m) fun e w'' => e = .returned (.int .i64 (cI C2 cf : Nat)) ∧ ∃ q, w'' = w7.drewN q := fun m => (tpc (KD.out m).tw cf hcf.out).mono fun e w'' ⟨a, c⟩ => ⟨a, m, c⟩
          have kB : ∀ m, Calls Tryd.prog 27 #[.pointer (some ⟨f, 0, none⟩), .int .i64 cf] (w7.drewN m) fun e w'' => e = .returned (.int .i64 (cI C2 cf : Nat)) ∧ ∃ q, w'' = w7.drewN q := fun m => (tdc (KD.out m).tw cf hcf.out).mono fun e w'' ⟨a, c⟩ => ⟨a, m, c⟩
          have kC : ∀ m, Calls Tryd.prog 28 #[.pointer (some ⟨pm, 0, none⟩), .int .i64 cf] (w7.drewN m) fun e w'' => e = .returned (.bool (clearF N B2 cf)) ∧ ∃ q, w'' = w7.drewN q := fun m => (tpz (KD.out m).tw cf hcf.out).mono fun e w'' ⟨a, c⟩ => ⟨a, m, c⟩
          have kD : ∀ m, Calls Tryd.prog 29 #[.pointer (some ⟨qm, 0, none⟩), .int .i64 cf] (w7.drewN m) fun e w'' => e = .returned (.bool (clearF N B2 cf)) ∧ ∃ q, w'' = w7.drewN q := fun m => (tdz (KD.out m).tw cf hcf.out).mono fun e w'' ⟨a, c⟩ => ⟨a, m, c⟩
          have kE : ∀ m, Calls Tryd.prog 28 #[.pointer (some ⟨pm, 0, none⟩), .int .i64 (av : Int)] (w7.drewN m) fun e w'' => e = .returned (.bool (clearF N B2 (av : Int))) ∧ ∃ q, w'' = w7.drewN q := fun m => (tpz (KD.out m).tw _ hA.out).mono fun e w'' ⟨a, c⟩ => ⟨a, m, c⟩
          have kF : ∀ m, Calls Tryd.prog 29 #[.pointer (some ⟨qm, 0, none⟩), .int .i64 (av : Int)] (w7.drewN m) fun e w'' => e = .returned (.bool (clearF N B2 (av : Int))) ∧ ∃ q, w'' = w7.drewN q := fun m => (tdz (KD.out m).tw _ hA.out).mono fun e w'' ⟨a, c⟩ => ⟨a, m, c⟩
          generalize cI C2 cf = cc at *
          generalize clearF N B2 cf = b1 at *
          generalize clearF N B2 (av : Int) = b2 at *
          clear HJ7
          go_wp2_with fail
          go_quiet (first | (go_at_call 26; go_must (exact kA _)) | (go_at_call 27; go_must (exact kB _)) | (go_at_call 28; go_must (first | with_reducible exact kC _ | with_reducible exact kE _)) | (go_at_call 29; go_must (first | with_reducible exact kD _ | with_reducible exact kF _)))
          rename_i nq
          have HI9 : Hid (TW w (fun _ => False) (w7.drewN nq) p f pm qm N pool (o1) B2 C2 (o2) B2 C2) := (KD.out nq).tw.less (fun _ h => h.elim)
          clear KD kA kB kC kD kE kF c1
          go_wp2
          go_roundg (51 - (i + 1))
          case measure => omega
          case rel => exact ⟨i + 1, _, _, _, _, by go_num, by omega, by omega, by omega, by omega, HI9⟩
      · as_aux_lemma =>
          rw [show ((6 : Nat) : Int) = 6 from rfl] at g4
          have k3 := tpd HJ0.out.tw cf hcf.out
          have K4 : Aside (∀ w', TW w (fun i => False ∨ i = Bo) w' p f pm qm N pool o1 (dropB B C cf) (dropC C cf) o2 B C → _) := fun w' t => tdd t cf hcf.out
          have hA : Hid ((Lit.int .i64 ((dropN C cf : Nat) : Int)).wf = true) := drop_wf HJ0.out.tw.top cf
          have c1 := HJ0.out.c1
          generalize dropN C cf = av at *
          generalize dropE C cf = ev at *
          generalize (dropB B C cf) = B2 at *
          generalize dropC C cf = C2 at *
          go_wp2_with fail
          with_reducible refine k3.mono ?_
          rintro e w4 ⟨rfl, t4, q4⟩
          have k5 := K4.out w4 t4
          have HJ4 : Hid (TJ w w4 p f pm qm N pool o1 B2 C2 o2 B C Bo ck cf ca) := HJ0.out.next t4 q4
          have c1' := HJ4.out.c1
          clear t4 q4 k3 K4 HJ0 c0 c1
          go_wp2_with fail
          with_reducible refine k5.mono ?_
          rintro e w5 ⟨rfl, t5, q5⟩
          have HJ : Hid (TJ w w5 p f pm qm N pool o1 B2 C2 o2 B2 C2 Bo ck cf ca) := HJ4.out.next t5 q5
          clear t5 q5 k5 HJ4 c1'
          obtain ⟨cn, hcn⟩ : ∃ cn, cnt (fP pool N C2) N = cn := ⟨_, rfl⟩
          obtain ⟨ct, hct⟩ : ∃ ct, cnt (fT pool C2) pool = ct := ⟨_, rfl⟩
          have HCN : Hid (cnt (fP pool N C2) N = cn ∧ cnt (fT pool C2) pool = ct) := ⟨hcn, hct⟩
          have k6 := tpf HJ.out.tw
          rw [hcn, hct] at k6
          clear hcn hct
          go_wp2_with fail
          with_reducible refine k6.mono ?_
          rintro e w6 ⟨rfl, d6⟩
          have HJ6 : Hid (TJ w w6 p f pm qm N pool (o1) B2 C2 (o2) B2 C2 Bo ck cf ca) := HJ.out.kps d6.kp
          have k7 := tdf HJ6.out.tw
          rw [HCN.out.1, HCN.out.2] at k7
          clear d6 k6 HJ HCN
          go_wp2_with fail
          with_reducible refine k7.mono ?_
          rintro e w7 ⟨rfl, d7⟩
          have HJ7 : Hid (TJ w w7 p f pm qm N pool (o1) B2 C2 (o2) B2 C2 Bo ck cf ca) := HJ6.out.kps d7.kp
          clear d7 k7 HJ6
          have c1 : ∀ m, (w7.drewN m).cell? ⟨Bo, 1, none⟩ = some (.int .i64 cf) := fun m => HJ7.out.c1
          have KD : Aside (∀ m, TJ w (w7.drewN m) p f pm qm N pool (o1) B2 C2 (o2) B2 C2 Bo ck cf ca) := fun m => HJ7.out.kps ((Kp.refl w7).drewN m)
          have kA : ∀ m, Calls Tryd.prog 26 #[.pointer (some ⟨p, 0, none⟩), .int .i64 cf] (w7.drewN m) fun e w'' => e = .returned (.int .i64 (cI C2 cf : Nat)) ∧ ∃ q, w'' = w7.drewN q := fun m => (tpc (KD.out m).tw cf hcf.out).mono fun e w'' ⟨a, c⟩ => ⟨a, m, c⟩
          have kB : ∀ m, Calls Tryd.prog 27 #[.pointer (some ⟨f, 0, none⟩), .int .i64 cf] (w7.drewN m) fun e w'' => e = .returned (.int .i64 (cI C2 cf : Nat)) ∧ ∃ q, w'' = w7.drewN q := fun m => (tdc (KD.out m).tw cf hcf.out).mono fun e w'' ⟨a, c⟩ => ⟨a, m, c⟩
          have kC : ∀ m, Calls Tryd.prog 28 #[.pointer (some ⟨pm, 0, none⟩), .int .i64 cf] (w7.drewN m) fun e w'' => e = .returned (.bool (clearF N B2 cf)) ∧ ∃ q, w'' = w7.drewN q := fun m => (tpz (KD.out m).tw cf hcf.out).mono fun e w'' ⟨a, c⟩ => ⟨a, m, c⟩
          have kD : ∀ m, Calls Tryd.prog 29 #[.pointer (some ⟨qm, 0, none⟩), .int .i64 cf] (w7.drewN m) fun e w'' => e = .returned (.bool (clearF N B2 cf)) ∧ ∃ q, w'' = w7.drewN q := fun m => (tdz (KD.out m).tw cf hcf.out).mono fun e w'' ⟨a, c⟩ => ⟨a, m, c⟩
          have kE : ∀ m, Calls Tryd.prog 28 #[.pointer (some ⟨pm, 0, none⟩), .int .i64 (av : Int)] (w7.drewN m) fun e w'' => e = .returned (.bool (clearF N B2 (av : Int))) ∧ ∃ q, w'' = w7.drewN q := fun m => (tpz (KD.out m).tw _ hA.out).mono fun e w'' ⟨a, c⟩ => ⟨a, m, c⟩
          have kF : ∀ m, Calls Tryd.prog 29 #[.pointer (some ⟨qm, 0, none⟩), .int .i64 (av : Int)] (w7.drewN m) fun e w'' => e = .returned (.bool (clearF N B2 (av : Int))) ∧ ∃ q, w'' = w7.drewN q := fun m => (tdz (KD.out m).tw _ hA.out).mono fun e w'' ⟨a, c⟩ => ⟨a, m, c⟩
          generalize cI C2 cf = cc at *
          generalize clearF N B2 cf = b1 at *
          generalize clearF N B2 (av : Int) = b2 at *
          clear HJ7
          go_wp2_with fail
          go_quiet (first | (go_at_call 26; go_must (exact kA _)) | (go_at_call 27; go_must (exact kB _)) | (go_at_call 28; go_must (first | with_reducible exact kC _ | with_reducible exact kE _)) | (go_at_call 29; go_must (first | with_reducible exact kD _ | with_reducible exact kF _)))
          rename_i nq
          have HI9 : Hid (TW w (fun _ => False) (w7.drewN nq) p f pm qm N pool (o1) B2 C2 (o2) B2 C2) := (KD.out nq).tw.less (fun _ h => h.elim)
          clear KD kA kB kC kD kE kF c1
          go_wp2
          go_roundg (51 - (i + 1))
          case measure => omega
          case rel => exact ⟨i + 1, _, _, _, _, by go_num, by omega, by omega, by omega, by omega, HI9⟩
      · as_aux_lemma =>
          rw [show ((7 : Nat) : Int) = 7 from rfl] at g4
          obtain ⟨f1, g6, l6⟩ := and_lim cf 2047 (by omega)
          obtain ⟨a1, g7, l7⟩ := and_lim ca 4095 (by omega)
          obtain ⟨ad, had⟩ : ∃ ad, ad = f1 * 4096 + a1 := ⟨_, rfl⟩
          rw [show ((2047 : Nat) : Int) = 2047 from rfl] at g6
          rw [show ((4095 : Nat) : Int) = 4095 from rfl] at g7
          have y6 : (f1 : Int) ≤ 2047 := by omega
          have y7 : (a1 : Int) ≤ 4095 := by omega
          have y8 : (f1 : Int) * 4096 + (a1 : Int) = (ad : Int) := by omega
          have hA : Hid ((Lit.int .i64 (0 : Int)).wf = true) := (show (Lit.int .i64 (0 : Int)).wf = true by decide)
          have c1 := HJ0.out.c1
          have c2 := HJ0.out.c2
          by_cases hw : f1 < N
          · have hc : chkP N ad ((1 : Nat) : Int) = 0 := by
              unfold chkP
              rw [if_neg (by omega), if_neg (by show ¬ ad % 1 ≠ 0; omega), if_neg (by omega)]
            have k3 := tpw HJ0.out.tw ad 1 7 (by omega) hc (by omega) (by omega)
            have K4 : Aside (∀ w', TW w (fun i => False ∨ i = Bo) w' p f pm qm N pool (o1 + 1) (putFr B (ad / 4096) (putF (B (ad / 4096)) (ad % 4096) 1 7)) C o2 B C → Calls Tryd.prog 23 #[.pointer (some ⟨qm, 0, none⟩), .int .u64 (ad : Int), .int .i64 ((1 : Nat) : Int), .int .u64 ((7 : Nat) : Int)] w' fun e w'' => e = .returned (.int .i64 0) ∧ TW w (fun i => False ∨ i = Bo) w'' p f pm qm N pool (o1 + 1) (putFr B (ad / 4096) (putF (B (ad / 4096)) (ad % 4096) 1 7)) C (o2 + 1) (putFr B (ad / 4096) (putF (B (ad / 4096)) (ad % 4096) 1 7)) C ∧ Fr (Out w (fun i => False ∨ i = Bo)) w' w'') := fun w' t => tdw t ad 1 7 hc (by omega) (by omega)
            rw [show ((1 : Nat) : Int) = 1 from rfl, show ((7 : Nat) : Int) = 7 from rfl] at k3 K4
            generalize putFr B (ad / 4096) (putF (B (ad / 4096)) (ad % 4096) 1 7) = B2 at *
            clear hc had l6 l7
            go_wp2_with fail
            with_reducible refine k3.mono ?_
            rintro e w4 ⟨rfl, t4, q4⟩
            have k5 := K4.out w4 t4
            have HJ4 : Hid (TJ w w4 p f pm qm N pool (o1 + 1) B2 C o2 B C Bo ck cf ca) := HJ0.out.next t4 q4
            clear t4 q4 k3 K4 HJ0 c0 c1 c2
            go_wp2_with fail
            with_reducible refine k5.mono ?_
            rintro e w5 ⟨rfl, t5, q5⟩
            have HJ : Hid (TJ w w5 p f pm qm N pool (o1 + 1) B2 C (o2 + 1) B2 C Bo ck cf ca) := HJ4.out.next t5 q5
            clear t5 q5 k5 HJ4
            obtain ⟨cn, hcn⟩ : ∃ cn, cnt (fP pool N C) N = cn := ⟨_, rfl⟩
            obtain ⟨ct, hct⟩ : ∃ ct, cnt (fT pool C) pool = ct := ⟨_, rfl⟩
            have HCN : Hid (cnt (fP pool N C) N = cn ∧ cnt (fT pool C) pool = ct) := ⟨hcn, hct⟩
            have k6 := tpf HJ.out.tw
            rw [hcn, hct] at k6
            clear hcn hct
            go_wp2_with fail
            with_reducible refine k6.mono ?_
            rintro e w6 ⟨rfl, d6⟩
            have HJ6 : Hid (TJ w w6 p f pm qm N pool (o1 + 1) B2 C (o2 + 1) B2 C Bo ck cf ca) := HJ.out.kps d6.kp
            have k7 := tdf HJ6.out.tw
            rw [HCN.out.1, HCN.out.2] at k7
            clear d6 k6 HJ HCN
            go_wp2_with fail
            with_reducible refine k7.mono ?_
            rintro e w7 ⟨rfl, d7⟩
            have HJ7 : Hid (TJ w w7 p f pm qm N pool (o1 + 1) B2 C (o2 + 1) B2 C Bo ck cf ca) := HJ6.out.kps d7.kp
            clear d7 k7 HJ6
            have c1 : ∀ m, (w7.drewN m).cell? ⟨Bo, 1, none⟩ = some (.int .i64 cf) := fun m => HJ7.out.c1
            have KD : Aside (∀ m, TJ w (w7.drewN m) p f pm qm N pool (o1 + 1) B2 C (o2 + 1) B2 C Bo ck cf ca) := fun m => HJ7.out.kps ((Kp.refl w7).drewN m)
            have kA : ∀ m, Calls Tryd.prog 26 #[.pointer (some ⟨p, 0, none⟩), .int .i64 cf] (w7.drewN m) fun e w'' => e = .returned (.int .i64 (cI C cf : Nat)) ∧ ∃ q, w'' = w7.drewN q := fun m => (tpc (KD.out m).tw cf hcf.out).mono fun e w'' ⟨a, c⟩ => ⟨a, m, c⟩
            have kB : ∀ m, Calls Tryd.prog 27 #[.pointer (some ⟨f, 0, none⟩), .int .i64 cf] (w7.drewN m) fun e w'' => e = .returned (.int .i64 (cI C cf : Nat)) ∧ ∃ q, w'' = w7.drewN q := fun m => (tdc (KD.out m).tw cf hcf.out).mono fun e w'' ⟨a, c⟩ => ⟨a, m, c⟩
            have kC : ∀ m, Calls Tryd.prog 28 #[.pointer (some ⟨pm, 0, none⟩), .int .i64 cf] (w7.drewN m) fun e w'' => e = .returned (.bool (clearF N B2 cf)) ∧ ∃ q, w'' = w7.drewN q := fun m => (tpz (KD.out m).tw cf hcf.out).mono fun e w'' ⟨a, c⟩ => ⟨a, m, c⟩
            have kD : ∀ m, Calls Tryd.prog 29 #[.pointer (some ⟨qm, 0, none⟩), .int .i64 cf] (w7.drewN m) fun e w'' => e = .returned (.bool (clearF N B2 cf)) ∧ ∃ q, w'' = w7.drewN q := fun m => (tdz (KD.out m).tw cf hcf.out).mono fun e w'' ⟨a, c⟩ => ⟨a, m, c⟩
            have kE : ∀ m, Calls Tryd.prog 28 #[.pointer (some ⟨pm, 0, none⟩), .int .i64 0] (w7.drewN m) fun e w'' => e = .returned (.bool (clearF N B2 0)) ∧ ∃ q, w'' = w7.drewN q := fun m => (tpz (KD.out m).tw _ hA.out).mono fun e w'' ⟨a, c⟩ => ⟨a, m, c⟩
            have kF : ∀ m, Calls Tryd.prog 29 #[.pointer (some ⟨qm, 0, none⟩), .int .i64 0] (w7.drewN m) fun e w'' => e = .returned (.bool (clearF N B2 0)) ∧ ∃ q, w'' = w7.drewN q := fun m => (tdz (KD.out m).tw _ hA.out).mono fun e w'' ⟨a, c⟩ => ⟨a, m, c⟩
            generalize cI C cf = cc at *
            generalize clearF N B2 cf = b1 at *
            generalize clearF N B2 0 = b2 at *
            clear HJ7
            go_wp2_with fail
            go_quiet (first | (go_at_call 26; go_must (exact kA _)) | (go_at_call 27; go_must (exact kB _)) | (go_at_call 28; go_must (first | with_reducible exact kC _ | with_reducible exact kE _)) | (go_at_call 29; go_must (first | with_reducible exact kD _ | with_reducible exact kF _)))
            rename_i nq
            have HI9 : Hid (TW w (fun _ => False) (w7.drewN nq) p f pm qm N pool (o1 + 1) B2 C (o2 + 1) B2 C) := (KD.out nq).tw.less (fun _ h => h.elim)
            clear KD kA kB kC kD kE kF c1
            go_wp2
            go_roundg (51 - (i + 1))
            case measure => omega
            case rel => exact ⟨i + 1, _, _, _, _, by go_num, by omega, by omega, by omega, by omega, HI9⟩
          · have hc : chkP N ad 1 = 2 := by
              unfold chkP
              rw [if_neg (by omega), if_neg (by show ¬ ad % 1 ≠ 0; omega), if_pos (by omega)]
            have k3 := tpwn HJ0.out.tw ad 1 2 7 (by omega) hc (by decide)
            have k4 := tdwn HJ0.out.tw ad 1 2 7 hc (by decide)
            have HJ : Hid (TJ w W1 p f pm qm N pool o1 B C o2 B C Bo ck cf ca) := HJ0.out
            clear hc had l6 l7 HJ0
            go_wp2_with (first | (go_at_call 22; with_reducible refine k3.mono ?_; rintro e w' ⟨rfl, rfl⟩) | (go_at_call 23; with_reducible refine k4.mono ?_; rintro e w' ⟨rfl, rfl⟩))
            clear k3 k4 c0 c1 c2
            obtain ⟨cn, hcn⟩ : ∃ cn, cnt (fP pool N C) N = cn := ⟨_, rfl⟩
            obtain ⟨ct, hct⟩ : ∃ ct, cnt (fT pool C) pool = ct := ⟨_, rfl⟩
            have HCN : Hid (cnt (fP pool N C) N = cn ∧ cnt (fT pool C) pool = ct) := ⟨hcn, hct⟩
            have k6 := tpf HJ.out.tw
            rw [hcn, hct] at k6
            clear hcn hct
            go_wp2_with fail
            with_reducible refine k6.mono ?_
            rintro e w6 ⟨rfl, d6⟩
            have HJ6 : Hid (TJ w w6 p f pm qm N pool (o1) B C (o2) B C Bo ck cf ca) := HJ.out.kps d6.kp
            have k7 := tdf HJ6.out.tw
            rw [HCN.out.1, HCN.out.2] at k7
            clear d6 k6 HJ HCN
            go_wp2_with fail
            with_reducible refine k7.mono ?_
            rintro e w7 ⟨rfl, d7⟩
            have HJ7 : Hid (TJ w w7 p f pm qm N pool (o1) B C (o2) B C Bo ck cf ca) := HJ6.out.kps d7.kp
            clear d7 k7 HJ6
            have c1 : ∀ m, (w7.drewN m).cell? ⟨Bo, 1, none⟩ = some (.int .i64 cf) := fun m => HJ7.out.c1
            have KD : Aside (∀ m, TJ w (w7.drewN m) p f pm qm N pool (o1) B C (o2) B C Bo ck cf ca) := fun m => HJ7.out.kps ((Kp.refl w7).drewN m)
            have kA : ∀ m, Calls Tryd.prog 26 #[.pointer (some ⟨p, 0, none⟩), .int .i64 cf] (w7.drewN m) fun e w'' => e = .returned (.int .i64 (cI C cf : Nat)) ∧ ∃ q, w'' = w7.drewN q := fun m => (tpc (KD.out m).tw cf hcf.out).mono fun e w'' ⟨a, c⟩ => ⟨a, m, c⟩
            have kB : ∀ m, Calls Tryd.prog 27 #[.pointer (some ⟨f, 0, none⟩), .int .i64 cf] (w7.drewN m) fun e w'' => e = .returned (.int .i64 (cI C cf : Nat)) ∧ ∃ q, w'' = w7.drewN q := fun m => (tdc (KD.out m).tw cf hcf.out).mono fun e w'' ⟨a, c⟩ => ⟨a, m, c⟩
            have kC : ∀ m, Calls Tryd.prog 28 #[.pointer (some ⟨pm, 0, none⟩), .int .i64 cf] (w7.drewN m) fun e w'' => e = .returned (.bool (clearF N B cf)) ∧ ∃ q, w'' = w7.drewN q := fun m => (tpz (KD.out m).tw cf hcf.out).mono fun e w'' ⟨a, c⟩ => ⟨a, m, c⟩
            have kD : ∀ m, Calls Tryd.prog 29 #[.pointer (some ⟨qm, 0, none⟩), .int .i64 cf] (w7.drewN m) fun e w'' => e = .returned (.bool (clearF N B cf)) ∧ ∃ q, w'' = w7.drewN q := fun m => (tdz (KD.out m).tw cf hcf.out).mono fun e w'' ⟨a, c⟩ => ⟨a, m, c⟩
            have kE : ∀ m, Calls Tryd.prog 28 #[.pointer (some ⟨pm, 0, none⟩), .int .i64 0] (w7.drewN m) fun e w'' => e = .returned (.bool (clearF N B 0)) ∧ ∃ q, w'' = w7.drewN q := fun m => (tpz (KD.out m).tw _ hA.out).mono fun e w'' ⟨a, c⟩ => ⟨a, m, c⟩
            have kF : ∀ m, Calls Tryd.prog 29 #[.pointer (some ⟨qm, 0, none⟩), .int .i64 0] (w7.drewN m) fun e w'' => e = .returned (.bool (clearF N B 0)) ∧ ∃ q, w'' = w7.drewN q := fun m => (tdz (KD.out m).tw _ hA.out).mono fun e w'' ⟨a, c⟩ => ⟨a, m, c⟩
            generalize cI C cf = cc at *
            generalize clearF N B cf = b1 at *
            generalize clearF N B 0 = b2 at *
            clear HJ7
            go_wp2_with fail
            go_quiet (first | (go_at_call 26; go_must (exact kA _)) | (go_at_call 27; go_must (exact kB _)) | (go_at_call 28; go_must (first | with_reducible exact kC _ | with_reducible exact kE _)) | (go_at_call 29; go_must (first | with_reducible exact kD _ | with_reducible exact kF _)))
            rename_i nq
            have HI9 : Hid (TW w (fun _ => False) (w7.drewN nq) p f pm qm N pool (o1) B C (o2) B C) := (KD.out nq).tw.less (fun _ h => h.elim)
            clear KD kA kB kC kD kE kF c1
            go_wp2
            go_roundg (51 - (i + 1))
            case measure => omega
            case rel => exact ⟨i + 1, _, _, _, _, by go_num, by omega, by omega, by omega, by omega, HI9⟩
    · have kt := ftold_any wr HI.out.tab
      have HK : Hid (Kp w wr) := HI.out.kp
      clear HI
      by_cases c1 : i < mc
      · have y1 : (i : Int) < mc := by omega
        have y2 : ¬ (i : Int) < 50 := by omega
        go_wp2_with fail
        with_reducible refine kt.mono ?_
        rintro e w9 ⟨rfl, K9⟩
        have HK2 : Hid (Kp w w9) := HK.out.trans K9
        clear K9 kt
        go_wp2
        go_ret
        exact ⟨rfl, HK2.out⟩
      · have y1 : ¬ (i : Int) < mc := by omega
        go_wp2_with fail
        with_reducible refine kt.mono ?_
        rintro e w9 ⟨rfl, K9⟩
        have HK2 : Hid (Kp w w9) := HK.out.trans K9
        clear K9 kt
        go_wp2
        go_ret
        exact ⟨rfl, HK2.out⟩
end Go.Proofs.YtjnkmmfppkpgbaaDoor
