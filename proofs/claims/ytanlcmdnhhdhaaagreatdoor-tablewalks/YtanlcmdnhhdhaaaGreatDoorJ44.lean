/- Joined: R69, ZS, R6C, S5, R6D. -/
import Derived.Test.YtanlcmdnhhdhaaaGreatDoorJ43
import Derived.Test.YtanlcmdnhhdhaaaGreatDoorJ05
import Derived.Test.YtanlcmdnhhdhaaaGreatDoorZ2
import Derived.Test.YtanlcmdnhhdhaaaGreatDoorJ42
import Derived.ProofKit
import Derived.OpenShut
import Derived.WalkKit
import Derived.Deep.Fields
import Derived.Test.YtanlcmdnhhdhaaaGreatDoorJ33
/- demesnelaw13.step. (Laid by gen_r69.py.) -/
namespace Go.Proofs.YtanlcmdnhhdhaaaGreatDoor
open Go.RowKit
set_option maxRecDepth 10000

set_option maxHeartbeats 16000000 in
theorem step_any {W w : World} {X : Nat → Prop} {v : Value} {bt p pm pool o : Nat} {M : Nat → Nat → Nat} {C : Nat → Nat} {Z : Nat → Bool} {root br bf : Nat} {E : Nat → Nat → DV} {L : List LV} {fr : Int} (h : BJ W X w bt p pm pool o M C Z root E br bf v L fr false)
    (kd fm sf : Int) (pg : Nat) (r q x raw : Bool) (hpg : pg < 18446744073709551616) (m : Nat) (t : Int) (k1 : kd.tmod 11 = t) (k2 : -11 < t) (k3 : t < 11) (k4 : (t + 11).tmod 11 = (m : Int)) (k5 : m < 11) (k6 : m ≠ 10)
    (hl : L.length ≤ 800000) (hf : -100000000 ≤ fr ∧ fr ≤ 100000000) (ho : o < 100000000000000000) (hX : ∀ i, X i → i < w.heap.size) :
    Calls Tryz.prog 9 #[.pointer (some ⟨bt, 0, none⟩), .pointer (some ⟨br, 0, none⟩), .agg #[.int .i64 kd, .int .i64 fm, .int .i64 sf, .int .u64 (pg : Int), .bool r, .bool q, .bool x, .bool raw]] w fun e w' => ∃ z, e = .returned (.bool z) ∧ SZ W w X v bt p pm pool (o + 1000) M C Z root br bf E L fr z w' := by
  have HH : Hid (BJ W X w bt p pm pool o M C Z root E br bf v L fr false ∧ L.length ≤ 800000 ∧ (-100000000 ≤ fr ∧ fr ≤ 100000000) ∧ o < 100000000000000000 ∧ ∀ i, X i → i < w.heap.size) := ⟨h, hl, hf, ho, hX⟩
  have HP : Hid (pg < 18446744073709551616) := hpg
  obtain ⟨p1, hp1, lp1⟩ : ∃ p1, p1 = pgT pg ∧ p1 < 18446744073709551616 := ⟨_, rfl, by have := pgT_lt pg; omega⟩
  have HQ : Hid (p1 < 18446744073709551616) := lp1
  obtain ⟨fa, ea, fa0, fa1⟩ : ∃ fa : Int, bits .and .i64 fm 1023 = fa ∧ 0 ≤ fa ∧ fa < 1024 := ⟨_, mask10 _, Int.emod_nonneg _ (by decide), Int.emod_lt_of_pos _ (by decide)⟩
  obtain ⟨w1, hw1⟩ : ∃ w1, w1 = w.alloc (.cells #[.int .i64 kd, .int .i64 fm, .int .i64 sf, .int .u64 (pg : Int), .bool r, .bool q, .bool x, .bool raw] 41) := ⟨_, rfl⟩
  obtain ⟨b5, hb5⟩ : ∃ b5, b5 = w.heap.size := ⟨_, rfl⟩
  have HF : Hid (Kp w w1 ∧ OPX w1 b5 kd fm sf (pg : Int) r q x raw) := ⟨by rw [hw1]; exact (Kp.refl w).alloc _, by rw [hw1, hb5]; exact heap_alloc_new w _⟩
  have kP : Aside (∀ P : KeptBy w1, Calls Tryz.prog 13 #[.int .u64 (pg : Int)] P.v fun e w' => e = .returned (.int .u64 (p1 : Int)) ∧ Kp P.v w') := fun P => by rw [hp1]; exact page_tab pg P.v
  clear h hl hf ho hX hpg hp1 lp1
  go_enter Tryz.func9, Tryz.ntmps9
  go_wp2_with fail
  rw [← hw1, ← hb5]
  have HB : Hid (w.heap.size ≤ b5) := (by omega : w.heap.size ≤ b5)
  clear hw1 hb5
  have kb : Nonempty (KeptBy w1) := KeptBy.some
  have g3 : ∀ P : KeptBy w1, P.v.cell? ⟨b5, 3, none⟩ = some (.int .u64 (pg : Int)) := fun P => (HF.out.2.kp P.k).cells.2.2.2.1
  have g1 : ∀ P : KeptBy w1, P.v.cell? ⟨b5, 1, none⟩ = some (.int .i64 fm) := fun P => (HF.out.2.kp P.k).cells.2.1
  refine wp_region_kept mixed (by kernel_rfl) ?_
  repeat (go_big_quiet_step (first | exact rfl | (go_at_call 13; with_reducible refine Calls.kept_of (kP.out _))))
  refine wpQuiet_nil ?_
  intro _ hw'
  obtain ⟨⟨wq, kq⟩, hw''⟩ := hw'
  subst hw''
  have HG := HF.out.2.kp kq
  have HF2 : Hid (Kp w _ ∧ OPX _ b5 kd fm sf (pg : Int) r q x raw) := ⟨HF.out.1.trans kq, HG⟩
  have g7 := HG.cells.2.2.2.2.2.2.2
  clear kb g3 g1 kP HF kq HG
  generalize fa + 100 = f1 at *
  go_upto_if 31 with fail
  go_cut [7, 8] (fun v7 v8 wx => ∃ (p2 : Nat) (f2 : Int), v7 = .int .u64 (p2 : Int) ∧ v8 = .int .i64 f2 ∧ Hid (p2 < 18446744073709551616 ∧ Kp w wx ∧ OPX wx b5 kd fm sf (pg : Int) r q x raw))
  case first =>
    cases raw
    · go_wp2_with fail
      go_meet
      case rel => exact ⟨p1, f1, rfl, rfl, HQ.out, HF2.out⟩
    · have q3 := HF2.out.2.cells.2.2.2.1
      have q1 := HF2.out.2.cells.2.1
      go_wp2_with fail
      go_quiet (fail)
      go_wp2_with fail
      go_meet
      case rel => exact ⟨pg, fm, rfl, rfl, HP.out, HF2.out.1.drewN _, HF2.out.2.kp ((Kp.refl _).drewN _)⟩
  case rest =>
    obtain ⟨p2, f2, rfl, rfl, H2⟩ := hcut
    have c := H2.out.2.2.cells
    have c4 := c.2.2.2.2.1
    have c5 := c.2.2.2.2.2.1
    have c6 := c.2.2.2.2.2.2.1
    have c2 := c.2.2.1
    clear c HF2 HQ ea fa0 fa1 g7
    have kA : Kp wc (wc.alloc (.cells #[.bool r, .bool q, .bool x] 39)) := (Kp.refl wc).alloc _
    have d2 := (H2.out.2.2.kp kA).cells.2.2.1
    have H3 : Hid (Kp w (wc.alloc (.cells #[.bool r, .bool q, .bool x] 39)) ∧ OPX (wc.alloc (.cells #[.bool r, .bool q, .bool x] 39)) b5 kd fm sf (pg : Int) r q x raw ∧ PX (wc.alloc (.cells #[.bool r, .bool q, .bool x] 39)) wc.heap.size r q x ∧ w.heap.size ≤ wc.heap.size ∧ b5 < wc.heap.size) := ⟨H2.out.2.1.trans kA, H2.out.2.2.kp kA, PX.made wc r q x, H2.out.2.1.size, H2.out.2.2.lt⟩
    have H2p : Hid (p2 < 18446744073709551616) := H2.out.1
    obtain ⟨z, hz⟩ : ∃ z, bits .and .i64 sf 16 = z := ⟨_, rfl⟩
    clear kA H2
    go_upto_if 41 with fail
    generalize wc.alloc (.cells #[.bool r, .bool q, .bool x] 39) = w3 at *
    generalize wc.heap.size = b9 at *
    clear d2 c2 c4 c5 c6
    go_cut [] (fun wx => ∃ R Q Y : Bool, Hid (Kp w wx ∧ OPX wx b5 kd fm sf (pg : Int) r q x raw ∧ PX wx b9 R Q Y))
    case first =>
      by_cases ez : z = 0
      · subst ez
        have e0 := H3.out.2.2.1.c0
        have e1 := H3.out.2.2.1.c1
        have e2 := H3.out.2.2.1.c2
        go_wp2_with fail
        with_reducible refine (right_any r q x _).mono ?_
        rintro e w4 ⟨rfl, k4⟩
        have P4 := H3.out.2.2.1.kp k4
        have e0 := P4.c0
        have e1 := P4.c1
        have e2 := P4.c2
        have f0 := P4.fz 0
        have f1 := P4.fz 1
        have f2 := P4.fz 2
        have H4 : Hid (Kp w (putP w4 b9 r (q && r) x) ∧ OPX (putP w4 b9 r (q && r) x) b5 kd fm sf (pg : Int) r q x raw ∧ PX (putP w4 b9 r (q && r) x) b9 r (q && r) x) := by
          exact ⟨(H3.out.1.trans k4).putP H3.out.2.2.2.1, (H3.out.2.1.kp k4).putP (by have := H3.out.2.2.2.2; omega) _ _ _, P4.put _ _ _⟩
        clear P4 k4
        go_wp2_with fail
        go_meet
        case rel => exact ⟨r, (q && r), x, H4⟩
      · have ez2 : (z == 0) = false := beq_false_of_ne ez
        go_wp2_with fail
        go_meet
        case rel => exact ⟨r, q, x, H3.out.1, H3.out.2.1, H3.out.2.2.1⟩
    case rest =>
      obtain ⟨R, Q, Y, H4⟩ := hcut
      have HB9 : Hid (w.heap.size ≤ b9) := H3.out.2.2.2.1
      clear H3 hz
      have c2 := H4.out.2.1.cells.2.2.1
      have c7 := H4.out.2.1.cells.2.2.2.2.2.2.2
      go_upto_if 48 with fail
      go_cut [10] (fun v10 wx => ∃ s : Int, v10 = .int .i64 s ∧ Hid (Kp w wx ∧ OPX wx b5 kd fm sf (pg : Int) r q x raw ∧ PX wx b9 R Q Y))
      case first =>
        obtain ⟨z1, hz1⟩ : ∃ z, bits .and .i64 sf 1 = z := ⟨_, rfl⟩
        cases raw
        · go_wp2_with fail
          go_meet
          case rel => exact ⟨z1, rfl, H4⟩
        · go_wp2_with fail
          go_meet
          case rel => exact ⟨sf, rfl, H4⟩
      case rest =>
        obtain ⟨s, rfl, H5⟩ := hcut
        clear H4 c2 c7
        have c0 := H5.out.2.1.cells.1
        have c7 := H5.out.2.1.cells.2.2.2.2.2.2.2
        rename_i hK
        refine hK _ _ ?_
        clear hK
        go_step
        go_cut [7, 8] (fun v7 v8 wx => ∃ (p3 : Nat) (f3 : Int), v7 = .int .u64 (p3 : Int) ∧ v8 = .int .i64 f3 ∧ Hid (p3 < 18446744073709551616 ∧ Kp w wx ∧ OPX wx b5 kd fm sf (pg : Int) r q x raw ∧ PX wx b9 R Q Y))
        case first =>
          by_cases h3 : m = 3
          · subst h3
            cases raw
            · obtain ⟨p3, ep3, lp3⟩ : ∃ p3 : Nat, bits .andNot .u64 (p2 : Int) 511 = (p3 : Int) ∧ p3 < 18446744073709551616 := ⟨_, andn_511 p2 H2p.out, by have := H2p.out; omega⟩
              obtain ⟨f3, ef3⟩ : ∃ f3, bits .andNot .i64 f2 511 = f3 := ⟨_, rfl⟩
              go_wp2_with fail
              go_meet
              case rel => exact ⟨p3, f3, rfl, rfl, lp3, H5.out⟩
            · go_wp2_with fail
              go_meet
              case rel => exact ⟨p2, f2, rfl, rfl, H2p.out, H5.out⟩
          · have e3 : ((m : Int) == 3) = false := by rw [beq_eq_false_iff_ne]; omega
            go_wp2_with fail
            go_meet
            case rel => exact ⟨p2, f2, rfl, rfl, H2p.out, H5.out⟩
        case rest =>
          obtain ⟨p3, f3, rfl, rfl, H6⟩ := hcut
          clear H5 c0 c7 H2p
          rename_i hK
          exact hK _ _ (step_switch HH.out H6.out.1 H6.out.2.1 HB9.out H6.out.2.2.1 H6.out.2.2.2 k1 k2 k3 k4 k5 k6)

end Go.Proofs.YtanlcmdnhhdhaaaGreatDoor

/- walk: addresses of one span go the same way. -/
namespace Go.Proofs.YtanlcmdnhhdhaaaGreatDoor
open Go.RowKit
set_option maxRecDepth 10000

theorem idx_same {u o i j : Nat} (h : o / 2 ^ sh (j : Int) = u / 2 ^ sh (j : Int)) (hi : i ≤ j) (hj : j ≤ 3) : idx u (i : Int) = idx o (i : Int) := by
  unfold idx
  rw [if_pos (isLv_iff.2 (by omega)), if_pos (isLv_iff.2 (by omega))]
  unfold fieldN
  have e : sh (i : Int) = sh (j : Int) + 9 * (j - i) := by unfold sh; omega
  rw [e, Nat.pow_add, ← Nat.div_div_eq_div_mul, ← Nat.div_div_eq_div_mul, h]
/-- Walks that go by the same places are the same. -/
theorem goW_same (s : Int) (u o : Nat) (rd : Nat → Nat × Bool) : ∀ n l t, (∀ i, l ≤ i → i < l + (goW s u rd n l t).2.2 → idx u (i : Int) = idx o (i : Int)) → goW s o rd n l t = goW s u rd n l t
  | 0, _, _, _ => rfl
  | n + 1, l, t, h => by
    cases ho : (rd (atN t u l)).2
    · rw [goW_stop ho] at h ⊢
      have e : atN t o l = atN t u l := by unfold atN; rw [h l (Nat.le_refl _) (by show l < l + 1; omega)]
      rw [goW_stop (by rw [e]; exact ho)]
    · by_cases hk : (dvN s l (rd (atN t u l)).1).k = 1
      · rw [goW_on ho hk] at h ⊢
        have e : atN t o l = atN t u l := by unfold atN; rw [h l (Nat.le_refl _) (by show l < l + (_ + 1); omega)]
        rw [goW_on (by rw [e]; exact ho) (by rw [e]; exact hk), e]
        rw [goW_same s u o rd n (l + 1) _ (fun i h1 h2 => h i (by omega) (by show i < l + (_ + 1); omega))]
      · rw [goW_end ho hk] at h ⊢
        have e : atN t o l = atN t u l := by unfold atN; rw [h l (Nat.le_refl _) (by show l < l + 1; omega)]
        rw [goW_end (by rw [e]; exact ho) (by rw [e]; exact hk), e]

end Go.Proofs.YtanlcmdnhhdhaaaGreatDoor

/- TableWalks: its reader; a walk at any address of a page. -/
namespace Go.Proofs.YtanlcmdnhhdhaaaGreatDoor
open Go.RowKit
set_option maxRecDepth 10000

/-- The world between the reads of a walk: m's box. -/
structure TMI (W : World) (X S : Nat → Prop) (n0 : Nat) (bm bt p pm N pool o root : Nat) (B : Nat → Nat → Nat) (C : Nat → Nat) (w : World) : Prop where
  fb : ∃ ops, ops ≤ o ∧ FB W X S w p pm N pool ops B C
  bx : w.heap[bm]? = some (.cells #[.pointer (some ⟨pm, 0, none⟩)] 23 (0, 0))
  tx : TX w bt p root
  sz : n0 ≤ w.heap.size
set_option maxHeartbeats 1000000 in
theorem readM13 {W w0 : World} {X S : Nat → Prop} {bm bt p pm N pool ops root : Nat} {B : Nat → Nat → Nat} {C : Nat → Nat} (h : FB W X S w0 p pm N pool ops B C) (bx : w0.heap[bm]? = some (.cells #[.pointer (some ⟨pm, 0, none⟩)] 23 (0, 0))) (hX : X bm) (T : TX w0 bt p root) (hT : X bt) (ho : ops < 4000000000000000000) :
    RD w0.heap.size 16 #[] #[.pointer (some ⟨bm, 0, none⟩)] (rdB N B) S (fun n w => TMI W X S w0.heap.size bm bt p pm N pool (ops + n) root B C w) where
  fn := ⟨_, Tryz.func16, rfl, by decide⟩
  lt := h.fs.own
  word a := by
    obtain ⟨⟨M, U, V, bt, bp, bc, h⟩, b⟩ := h.fs
    obtain ⟨bm, g, h⟩ := h.mem
    unfold rdB
    split
    · exact numb_lt (h.byte _) _ 8
    · show 0 < _; decide
  keep n w w' H k := by
    obtain ⟨⟨ops', a1, a2⟩, a3, a4, a5⟩ := H
    exact ⟨⟨ops', a1, a2.below k h.fs.own h.kp.size⟩, (k.block bm (Array.getElem?_eq_some_iff.1 bx).1).trans a3, (k.block bt T.lt).trans a4, Nat.le_trans a5 k.size⟩
  size n w H := H.sz
  call n w a H hn ha := by
    obtain ⟨⟨ops', a1, a2⟩, a3, a4, a5⟩ := H
    have k2 := sread_any a2.fs a ha (by omega)
    have c0 : w.cell? ⟨bm, 0, none⟩ = some (.pointer (some ⟨pm, 0, none⟩)) := by rw [cell_of_row _ _ 0 _ _ _ a3]; rfl
    have sX : ¬ S bm := fun c => (a2.out bm c).2 hX
    have sT : ¬ S bt := fun c => (a2.out bt c).2 hT
    have HA : Hid (FB W X S w p pm N pool ops' B C ∧ w.heap[bm]? = some (.cells #[.pointer (some ⟨pm, 0, none⟩)] 23 (0, 0)) ∧ TX w bt p root ∧ w0.heap.size ≤ w.heap.size ∧ ops' ≤ ops + n ∧ ¬ S bm ∧ ¬ S bt) := ⟨a2, a3, a4, a5, a1, sX, sT⟩
    generalize (rdB N B a).1 = u at *
    generalize (rdB N B a).2 = ok at *
    clear a1 a2 a3 a4 a5 h bx T hT hX ho hn sX sT
    show Calls Tryz.prog 16 #[.int .u64 (a : Int), .pointer (some ⟨bm, 0, none⟩)] w fun e w' => e = .returned (.tuple #[.int .u64 (u : Int), .bool ok]) ∧ TMI W X S w0.heap.size bm bt p pm N pool (ops + (n + 1)) root B C w' ∧ Fr S w w'
    go_enter Tryz.func16, Tryz.ntmps16
    go_wp2_with fail
    with_reducible refine k2.mono ?_
    rintro e w2 ⟨⟨r, rfl, hr⟩, ⟨o2, ho2, F2⟩, K2⟩
    have HE : Hid (TMI W X S w0.heap.size bm bt p pm N pool (ops + (n + 1)) root B C w2 ∧ Fr S w w2) := by
      obtain ⟨b1, b2, b3, b4, b5, b6, b7⟩ := HA.out
      exact ⟨⟨⟨o2, by omega, F2, K2.kp b1.kp (fun i hi => (b1.out i hi).1), b1.out, fun i hi => Nat.lt_of_lt_of_le (b1.lt i hi) K2.size, b1.t0⟩, (K2.block bm (Array.getElem?_eq_some_iff.1 b2).1 b6).trans b2, b3.fr K2 b7, Nat.le_trans b4 K2.size⟩, K2⟩
    clear F2 K2 HA k2
    go_wp2
    go_ret2
    exact ⟨by rw [hr]; rfl, HE.out⟩
section
variable {W w w' : World} {X : Nat → Prop} {bm bt p pm N pool o : Nat} {M : Nat → Nat → Nat} {C : Nat → Nat} {Z : Nat → Bool} {root : Nat} {E : Nat → Nat → DV}
theorem TS.lim (h : TS W X w bt p pm N pool o M C Z root E) : ∀ i, X i → i < w.heap.size := by
  obtain ⟨ops, B, _, _, S, f⟩ := h.fw
  exact f.lt
theorem awalk_any (h : TS W X w bt p pm N pool o M C Z root E) (bx : w.heap[bm]? = some (.cells #[.pointer (some ⟨pm, 0, none⟩)] 23 (0, 0))) (hX : X bm) (page lo : Nat) (hp : page < 268435456) (hlo : lo < 4096) (ho : o < 4000000000000000000) :
    Calls Tryz.prog 14 #[.int .i64 2, .int .u64 ((root * 4096 : Nat) : Int), .int .u64 ((page * 4096 + lo : Nat) : Int), .func (.func 16) #[] #[.pointer (some ⟨bm, 0, none⟩)]] w fun e w' => e = .returned (.tuple #[.slice (some ⟨w.heap.size, 0, none⟩) (lvG E page + 1) 4, .int .i64 (if (enG E page).k = 0 then 1 else 0)]) ∧ WL w' w.heap.size (stps root E page) ∧ TS W (fun i => X i ∨ i = w.heap.size) w' bt p pm N pool (o + 4) M C Z root E ∧ w'.heap[bm]? = some (.cells #[.pointer (some ⟨pm, 0, none⟩)] 23 (0, 0)) ∧ Fr (Out W X) w w' := by
  obtain ⟨⟨ops, B, h1, rfl, S, fb⟩, tx, xb, bw, tg⟩ := h
  have hn := fb.fs.nums
  have hg : goW 2 (page * 4096) (rdB N B) 4 0 (root * 4096) = _ := goW_way tg hp (by omega) (fun x i hx hi => rdB_at (by omega) hi)
  have rl := (tg.mine 0 0 root (by omega) rfl).1
  have hs := goW_same 2 (page * 4096) (page * 4096 + lo) (rdB N B) 4 0 (root * 4096) (fun i _ hi => by
    rw [hg] at hi
    have := lvG_le E page
    have hi' : i < 0 + (lvG E page + 1) := hi
    exact idx_same (j := 3) (by show (page * 4096 + lo) / 2 ^ 12 = (page * 4096) / 2 ^ 12; omega) (by omega) (by omega))
  have k1 := walk_any (readM13 (bt := bt) (root := root) fb bx hX tx xb (by omega)) 2 (by decide) (root * 4096) (page * 4096 + lo) 0 (by omega) (by omega) (by omega) w ⟨⟨ops, Nat.le_refl _, fb⟩, bx, tx, Nat.le_refl _⟩
  rw [hs, hg] at k1
  simp only [stps_len] at k1
  refine k1.mono ?_
  rintro e w' ⟨e1, e2, e3, e4⟩
  obtain ⟨⟨o2, a1, a2⟩, a3, a4, a5⟩ := e3
  have := lvG_le E page
  exact ⟨e1, e2, ⟨⟨o2, B, by omega, rfl, S, a2.fs, a2.kp, fun k hk => ⟨(a2.out k hk).1, fun c => c.elim (a2.out k hk).2 (fun c => by have := fb.fs.own k hk; omega)⟩, fun i hi => hi.elim (a2.lt i) (fun c => by have := e2.lt; omega), a2.t0⟩, a4, .inl xb, bw, tg⟩, a3, e4.mono fun i _ hi => fb.out i hi⟩
/-- What is told of a page that is there, at any address of it. -/
theorem out_at (h : TG M C pool Z root E) {page lo : Nat} (hp : page < 268435456) (hlo : lo < 4096) (hk : (enG E page).k ≠ 0) : outN (page * 4096 + lo) (lvG E page : Int) (enG E page).k (enG E page).a = (getP E page).x * 4096 + lo ∧ (getP E page).x < 268435456 ∧ (getP E page).r = (enG E page).r ∧ (getP E page).q = (enG E page).q ∧ (getP E page).e = (enG E page).x ∧ (getP E page).f = (enG E page).f ∧ (getP E page).l = lvG E page := by
  unfold getP getN
  rw [if_pos hp, if_pos hk]
  have ok := h.ok (lvG E page) (qn page (lvG E page)) (lvG_le E page)
  have lk := h.leafK hk
  have hh := ok.parts
  have h1 := hh.2.2.2.2.2.1
  have h2 := hh.2.2.2.2.2.2.1
  change okD (lvG E page) (enG E page) at ok
  change (enG E page).a % 4096 = 0 at h1
  change (enG E page).a < 4294967296 at h2
  generalize enG E page = d at *
  generalize lvG E page = l at *
  unfold tellN
  refine ⟨?_, ?_, rfl, rfl, rfl, rfl, rfl⟩
  · unfold outN inN
    rcases lk with ⟨c1, rfl⟩ | ⟨c1, rfl⟩
    · rw [if_pos (.inl c1), show spn ((2 : Nat) : Int) = 2097152 from rfl, if_neg (by decide)]
      show _ = (d.a / 4096 + page % 512) * 4096 + lo
      omega
    · rw [if_pos (.inr c1), show spn ((3 : Nat) : Int) = 4096 from rfl, if_neg (by decide)]
      show _ = (d.a / 4096 + 0) * 4096 + lo
      omega
  · show d.a / 4096 + _ < 268435456
    split <;> omega
end

end Go.Proofs.YtanlcmdnhhdhaaaGreatDoor

/- Steps that came in: lists of demesnelaw13.Op. -/
namespace Go.Proofs.YtanlcmdnhhdhaaaGreatDoor
open Go.RowKit Go.ChangeShapes Go.WideShapes Go.ChangeAt
set_option maxRecDepth 10000

/-- A step. -/
structure OpV where
  kd : Int
  fm : Int
  sf : Int
  pg : Nat
  r : Bool
  q : Bool
  x : Bool
  raw : Bool
def encO8 (o : OpV) : List Value := [.int .i64 o.kd, .int .i64 o.fm, .int .i64 o.sf, .int .u64 (o.pg : Int), .bool o.r, .bool o.q, .bool o.x, .bool o.raw]
/-- m steps lie in w at na. -/
def Steps (w : World) (na : Option Addr) (m : Nat) (V : Nat → OpV) : Prop := ∀ i, i < m → (∃ b o, na = some ⟨b, o, none⟩ ∧ b < w.heap.size ∧ ∀ j y, (encO8 (V i))[j]? = some y → w.cell? ⟨b, o + i * 8 + j, none⟩ = some y) ∧ (V i).pg < 18446744073709551616
theorem op8_cells {H : Type} {enc : TypeId × Value → H} {w : World} {base : Nat} {spare : Nat → Bool} {held : Bool} {fuel : Nat} {l : List Value} {y : DataW H × List MemPlace} (hl : l.length = 8)
    (hf : DataW.trod enc Tryz.prog w base spare held fuel 41 l = some y) : ∃ o : OpV, l = encO8 o ∧ o.pg < 18446744073709551616 := by
  obtain ⟨xs, n, _, _, _, hxl, hfs⟩ := DataW.trod_struct Tryz.underlying41 hf
  match l, hl with
  | [c0, c1, c2, c3, c4, c5, c6, c7], _ =>
    have hx : xs.length = 6 := hxl
    have g0 : DataW.trod enc Tryz.prog w base spare held n 3 ((([c0, c1, c2, c3, c4, c5, c6, c7] : List Value).drop 0).take (Tryz.prog.cellsOf 3)) = xs[0]? := hfs 0 _ rfl
    have g1 : DataW.trod enc Tryz.prog w base spare held n 3 ((([c0, c1, c2, c3, c4, c5, c6, c7] : List Value).drop 1).take (Tryz.prog.cellsOf 3)) = xs[1]? := hfs 1 _ rfl
    have g2 : DataW.trod enc Tryz.prog w base spare held n 3 ((([c0, c1, c2, c3, c4, c5, c6, c7] : List Value).drop 2).take (Tryz.prog.cellsOf 3)) = xs[2]? := hfs 2 _ rfl
    have g3 : DataW.trod enc Tryz.prog w base spare held n 37 ((([c0, c1, c2, c3, c4, c5, c6, c7] : List Value).drop 3).take (Tryz.prog.cellsOf 37)) = xs[3]? := hfs 3 _ rfl
    have g4 : DataW.trod enc Tryz.prog w base spare held n 39 ((([c0, c1, c2, c3, c4, c5, c6, c7] : List Value).drop 4).take (Tryz.prog.cellsOf 39)) = xs[4]? := hfs 4 _ rfl
    have g5 : DataW.trod enc Tryz.prog w base spare held n 4 ((([c0, c1, c2, c3, c4, c5, c6, c7] : List Value).drop 7).take (Tryz.prog.cellsOf 4)) = xs[5]? := hfs 5 _ rfl
    rw [show Tryz.prog.cellsOf 3 = 1 from by kernel_rfl, List.getElem?_eq_getElem (by omega)] at g0 g1 g2
    rw [show Tryz.prog.cellsOf 37 = 1 from by kernel_rfl, List.getElem?_eq_getElem (by omega)] at g3
    rw [show Tryz.prog.cellsOf 39 = 3 from by kernel_rfl, List.getElem?_eq_getElem (by omega)] at g4
    rw [show Tryz.prog.cellsOf 4 = 1 from by kernel_rfl, List.getElem?_eq_getElem (by omega)] at g5
    obtain ⟨kd, e0, _, _⟩ := DataW.trod_int Tryz.underlying3 g0
    obtain ⟨fm, e1, _, _⟩ := DataW.trod_int Tryz.underlying3 g1
    obtain ⟨sf, e2, _, _⟩ := DataW.trod_int Tryz.underlying3 g2
    obtain ⟨pg, e3, _, w3⟩ := DataW.trod_int Tryz.underlying37 g3
    obtain ⟨raw, e7, _⟩ := DataW.trod_bool Tryz.underlying4 g5
    obtain ⟨ys, m, _, _, _, hyl, hgs⟩ := DataW.trod_struct Tryz.underlying39 g4
    have hy : ys.length = 3 := hyl
    have p0 : DataW.trod enc Tryz.prog w base spare held m 4 ((([c4, c5, c6] : List Value).drop 0).take (Tryz.prog.cellsOf 4)) = ys[0]? := hgs 0 _ rfl
    have p1 : DataW.trod enc Tryz.prog w base spare held m 4 ((([c4, c5, c6] : List Value).drop 1).take (Tryz.prog.cellsOf 4)) = ys[1]? := hgs 1 _ rfl
    have p2 : DataW.trod enc Tryz.prog w base spare held m 4 ((([c4, c5, c6] : List Value).drop 2).take (Tryz.prog.cellsOf 4)) = ys[2]? := hgs 2 _ rfl
    rw [show Tryz.prog.cellsOf 4 = 1 from by kernel_rfl, List.getElem?_eq_getElem (by omega)] at p0 p1 p2
    obtain ⟨r, e4, _⟩ := DataW.trod_bool Tryz.underlying4 p0
    obtain ⟨q, e5, _⟩ := DataW.trod_bool Tryz.underlying4 p1
    obtain ⟨x, e6, _⟩ := DataW.trod_bool Tryz.underlying4 p2
    simp at e0 e1 e2 e3 e4 e5 e6 e7
    subst e0 e1 e2 e3 e4 e5 e6 e7
    have b := wf_word w3
    exact ⟨⟨kd, fm, sf, pg.toNat, r, q, x, raw⟩, by simp only [encO8, Int.toNat_of_nonneg b.1], by simp only; omega⟩
theorem open_steps {H : Type} {enc : TypeId × Value → H} {w : World} {base : Nat} {spare : Nat → Bool} {held : Bool} {fuel : Nat} {cs : List Value} {x : DataW H × List MemPlace}
    (h : DataW.trod enc Tryz.prog w base spare held fuel 22 cs = some x) :
    ∃ (na : Option Addr) (m mcap : Nat) (V : Nat → OpV), cs = [.slice na m mcap] ∧ m ≤ maxLen ∧ Steps w na m V := by
  rcases DataW.trod_slice Tryz.underlying22 h with ⟨h0, _⟩ | ⟨a, len, cap, elems, rest, n, _, rfl, rfl, hb, hl, hm, hlen, hel, hsp, hns⟩
  · exact ⟨none, 0, 0, fun _ => ⟨0, 0, 0, 0, false, false, false, false⟩, h0, Nat.zero_le _, fun i hi => by omega⟩
  · have each : ∀ i, i < len → ∃ e : OpV, (∀ j, j < 8 → w.cell? ((a.add (i * 8)).add j) = (encO8 e)[j]?) ∧ e.pg < 18446744073709551616 := fun i hi => by
      have h2 := hel i hi
      rw [List.getElem?_eq_getElem (by omega : i < elems.length), show Tryz.prog.cellsOf 41 = 8 from by kernel_rfl, Option.bind_eq_some_iff] at h2
      obtain ⟨cs', hcells, hy⟩ := h2
      obtain ⟨_, hclen, hcell⟩ := World.cells?_some hcells
      obtain ⟨e, rfl, hd⟩ := op8_cells hclen hy
      exact ⟨e, hcell, hd⟩
    refine ⟨some a, len, cap, fun i => if h : i < len then (each i h).choose else ⟨0, 0, 0, 0, false, false, false, false⟩, rfl, by omega, fun i hi => ?_⟩
    have hs := (each i hi).choose_spec
    simp only [dif_pos hi]
    generalize (each i hi).choose = e at hs
    obtain ⟨hc, hd⟩ := hs
    obtain ⟨b, o, sp⟩ := a
    have hspot : sp = none := by
      obtain ⟨d0, hc0, _⟩ := each 0 (by omega)
      have c0 := hc0 0 (by decide)
      rw [Nat.zero_mul] at c0
      exact World.cell?_spot c0
    subst hspot
    have c0 := hc 0 (by decide)
    have hlt : b < w.heap.size := by
      have := block_lt_of_cell c0
      simpa [add_at] using this
    refine ⟨⟨b, o, rfl, hlt, fun j y hy => ?_⟩, hd⟩
    have hj : j < 8 := by
      have := (List.getElem?_eq_some_iff.1 hy).1
      exact this
    have := hc j hj
    rw [add_at, add_at] at this
    exact this.trans hy

end Go.Proofs.YtanlcmdnhhdhaaaGreatDoor

/- TableWalks: its steps. -/
namespace Go.Proofs.YtanlcmdnhhdhaaaGreatDoor
open Go.RowKit
set_option maxRecDepth 10000

/-- Both tables between the steps, m's box beside them. -/
def LWk (W w : World) (bm bt p pm root br bf i : Nat) : Prop := ∃ X M C E v L fr, BJ W X w bt p pm 64 (i * 1000) M C (fun _ => false) root E br bf v L fr false ∧ X bm ∧ w.heap[bm]? = some (.cells #[.pointer (some ⟨pm, 0, none⟩)] 23 (0, 0)) ∧ L.length ≤ 511 * i ∧ fr + (tabL L : Int) = 63 ∧ (∀ b, v.ownBlock = some b → b ≠ bm) ∧ bm ≠ br ∧ bm ≠ bf
/-- The program's table, m's box beside it. -/
def LTk (W w : World) (bm bt p pm root o : Nat) (M : Nat → Nat → Nat) (C : Nat → Nat) (E : Nat → Nat → DV) : Prop := ∃ X, TS W X w bt p pm 2100 64 o M C (fun _ => false) root E ∧ X bm ∧ w.heap[bm]? = some (.cells #[.pointer (some ⟨pm, 0, none⟩)] 23 (0, 0))
theorem LWk.kp {W w w' : World} {bm bt p pm root br bf i : Nat} (h : LWk W w bm bt p pm root br bf i) (k : Kp w w') : LWk W w' bm bt p pm root br bf i := by
  obtain ⟨X, M, C, E, v, L, fr, h1, h2, h3, h4⟩ := h
  exact ⟨X, M, C, E, v, L, fr, h1.kps k, h2, (k.block bm (Array.getElem?_eq_some_iff.1 h3).1).trans h3, h4⟩
theorem LWk.mono {W w : World} {bm bt p pm root br bf i j : Nat} (h : LWk W w bm bt p pm root br bf i) (hj : i ≤ j) : LWk W w bm bt p pm root br bf j := by
  obtain ⟨X, M, C, E, v, L, fr, h1, h2, h3, h4, h5⟩ := h
  exact ⟨X, M, C, E, v, L, fr, h1.le (by omega), h2, h3, by omega, h5⟩
theorem LWk.k {W w : World} {bm bt p pm root br bf i : Nat} (h : LWk W w bm bt p pm root br bf i) : Kp W w := by
  obtain ⟨X, M, C, E, v, L, fr, h1, _⟩ := h
  exact h1.ts.fw.kp
theorem LWk.tk {W w : World} {bm bt p pm root br bf i : Nat} (h : LWk W w bm bt p pm root br bf i) (hi : i ≤ 30) : ∃ M C E, LTk W w bm bt p pm root 30000 M C E := by
  obtain ⟨X, M, C, E, v, L, fr, h1, h2, h3, _⟩ := h
  exact ⟨M, C, E, X, h1.ts.le (by omega), h2, h3⟩
theorem LWk.step {W w : World} {bm bt p pm root br bf i : Nat} (h : LWk W w bm bt p pm root br bf i) (hi : i < 30) (o : OpV) (ho : o.pg < 18446744073709551616) (m : Nat) (t : Int) (k1 : o.kd.tmod 11 = t) (k2 : -11 < t) (k3 : t < 11) (k4 : (t + 11).tmod 11 = (m : Int)) (k5 : m < 11) (k6 : m ≠ 10) :
    Calls Tryz.prog 9 #[.pointer (some ⟨bt, 0, none⟩), .pointer (some ⟨br, 0, none⟩), .agg #[.int .i64 o.kd, .int .i64 o.fm, .int .i64 o.sf, .int .u64 (o.pg : Int), .bool o.r, .bool o.q, .bool o.x, .bool o.raw]] w fun e w' => (∃ z, e = .returned (.bool z)) ∧ LWk W w' bm bt p pm root br bf (i + 1) := by
  obtain ⟨X, M, C, E, v, L, fr, h1, h2, h3, h4, h5, h6, h7, h8⟩ := h
  have tl := tabL_le h1.rq.ok
  refine (step_any h1 o.kd o.fm o.sf o.pg o.r o.q o.x o.raw ho m t k1 k2 k3 k4 k5 k6 (by omega) (by omega) (by omega) h1.ts.lim).mono ?_
  rintro e w' ⟨z, rfl, C', E', L', fr', _, _, _, _, _, S, _⟩
  obtain ⟨X', M', v', b, sx, _⟩ := S.ex
  have hb := h1.ts.lim bm h2
  refine ⟨⟨z, rfl⟩, X', M', C', E', v', L', fr', b.le (by omega), sx.wide bm h2, (sx.keep bm h2 h7 h8 (fun c => h6 bm c rfl)).trans h3, by have := S.sum.2; omega, by have := S.sum.1; omega, fun c hc e => ?_, h7, h8⟩
  subst e
  rcases sx.own c hc with d | d
  · exact h6 c d rfl
  · omega
section
variable {W w w' : World} {bm bt p pm root o : Nat} {M : Nat → Nat → Nat} {C : Nat → Nat} {E : Nat → Nat → DV}
theorem LTk.kp (h : LTk W w bm bt p pm root o M C E) (k : Kp w w') : LTk W w' bm bt p pm root o M C E := by
  obtain ⟨X, h1, h2, h3⟩ := h
  exact ⟨X, h1.kps k, h2, (k.block bm (Array.getElem?_eq_some_iff.1 h3).1).trans h3⟩
/-- .. and a walk's steps, of the page, in b. -/
def LTb (W w : World) (bm bt p pm root o : Nat) (M : Nat → Nat → Nat) (C : Nat → Nat) (E : Nat → Nat → DV) (b page : Nat) : Prop := ∃ X, TS W X w bt p pm 2100 64 o M C (fun _ => false) root E ∧ X bm ∧ w.heap[bm]? = some (.cells #[.pointer (some ⟨pm, 0, none⟩)] 23 (0, 0)) ∧ X b ∧ WL w b (stps root E page)
theorem LTb.kp {b page : Nat} (h : LTb W w bm bt p pm root o M C E b page) (k : Kp w w') : LTb W w' bm bt p pm root o M C E b page := by
  obtain ⟨X, h1, h2, h3, h4, h5⟩ := h
  exact ⟨X, h1.kps k, h2, (k.block bm (Array.getElem?_eq_some_iff.1 h3).1).trans h3, h4, h5.kp k⟩
theorem LTb.tk {b page o' : Nat} (h : LTb W w bm bt p pm root o M C E b page) (ho : o ≤ o') : LTk W w bm bt p pm root o' M C E := by
  obtain ⟨X, h1, h2, h3, _⟩ := h
  exact ⟨X, h1.le ho, h2, h3⟩
theorem LTk.walk (h : LTk W w bm bt p pm root o M C E) (page lo : Nat) (hp : page < 268435456) (hlo : lo < 4096) (ho : o < 4000000000000000000) :
    Calls Tryz.prog 14 #[.int .i64 2, .int .u64 ((root * 4096 : Nat) : Int), .int .u64 ((page * 4096 + lo : Nat) : Int), .func (.func 16) #[] #[.pointer (some ⟨bm, 0, none⟩)]] w fun e w' => e = .returned (.tuple #[.slice (some ⟨w.heap.size, 0, none⟩) (lvG E page + 1) 4, .int .i64 (if (enG E page).k = 0 then 1 else 0)]) ∧ LTb W w' bm bt p pm root (o + 4) M C E w.heap.size page := by
  obtain ⟨X, h1, h2, h3⟩ := h
  refine (awalk_any h1 h3 h2 page lo hp hlo ho).mono ?_
  rintro e w' ⟨e1, e2, e3, e4, _⟩
  exact ⟨e1, _, e3, .inl h2, e4, .inr rfl, e2⟩
theorem LTb.get {b page : Nat} (h : LTb W w bm bt p pm root o M C E b page) (ho : o < 1000000000000000000) :
    Calls Tryz.prog 18 #[.pointer (some ⟨bt, 0, none⟩), .int .u64 (page : Int)] w fun e w' => e = .returned (.tuple #[lvV (getP E page), .bool (isP E page)]) ∧ LTb W w' bm bt p pm root (o + 4) M C E b page := by
  obtain ⟨X, h1, h2, h3, h4, h5⟩ := h
  refine (pget_any h1 page (by omega)).mono ?_
  rintro e w' ⟨e1, t, f⟩
  exact ⟨e1, X, t, h2, (f.block bm (h1.lim bm h2) (fun c => c.2 h2)).trans h3, h4, h5.fr f (fun c => c.2 h4)⟩
theorem LTk.rootc (h : LTk W w bm bt p pm root o M C E) : Calls Tryz.prog 15 #[.pointer (some ⟨bt, 0, none⟩)] w fun e w' => e = .returned (.int .u64 ((root * 4096 : Nat) : Int)) ∧ w' = w := by
  obtain ⟨X, h1, _⟩ := h
  exact troot_any h1.tx
theorem LTk.k (h : LTk W w bm bt p pm root o M C E) : Kp W w := by
  obtain ⟨X, h1, _⟩ := h
  exact h1.fw.kp
theorem LTk.tg (h : LTk W w bm bt p pm root o M C E) : TG M C 64 (fun _ => false) root E := by
  obtain ⟨X, h1, _⟩ := h
  exact h1.tg
theorem LTb.cells {b page : Nat} (h : LTb W w bm bt p pm root o M C E b page) : ∀ j y, (encS (stp root E page (lvG E page)))[j]? = some y → w.cell? ⟨b, lvG E page * 9 + j, none⟩ = some y := by
  obtain ⟨X, h1, h2, h3, h4, h5⟩ := h
  intro j y hy
  exact OL.cell encS_ok h5 (stps_get (Nat.le_refl _)) hy
end

end Go.Proofs.YtanlcmdnhhdhaaaGreatDoor
