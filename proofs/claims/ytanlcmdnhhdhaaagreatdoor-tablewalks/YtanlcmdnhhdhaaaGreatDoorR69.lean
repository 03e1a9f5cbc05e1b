/- demesnelaw13.step. (Laid by gen_r69.py.) -/
import Derived.Test.YtanlcmdnhhdhaaaGreatDoorR6B
import Derived.Test.YtanlcmdnhhdhaaaGreatDoorJ05
namespace Go.Proofs.YtanlcmdnhhdhaaaGreatDoor
open Go.RowKit
set_option maxRecDepth 10000

set_option maxHeartbeats 16000000 in
theorem step_any {W w : World} {X : Nat → Prop} {v : Value} {bt p pm pool o : Nat} {M : Nat → Nat → Nat} {C : Nat → Nat} {Z : Nat → Bool} {root br bf : Nat} {E : Nat → Nat → DV} {L : List LV} {fr : Int} (h : BJ W X w bt p pm pool o M C Z root E br bf v L fr false)
    (kd fm sf : Int) (pg : Nat) (r q x raw : Bool) (hpg : pg < 18446744073709551616) (m : Nat) (t : Int) (k1 : kd.tmod 11 = t) (k2 : -11 < t) (k3 : t < 11) (k4 : (t + 11).tmod 11 = (m : Int)) (k5 : m < 11) (k6 : m ≠ 10)
    (hl : L.length ≤ 800000) (hf : -100000000 ≤ fr ∧ fr ≤ 100000000) (ho : o < 100000000000000000) (hX : ∀ i, X i → i < w.heap.size) :
    Calls Tryz.prog 9 #[.pointer (some ⟨bt, 0, none⟩), .pointer (some ⟨br, 0, none⟩), .agg #[.int .i64 kd, .int .i64 fm, .int .i64 sf, .int .u64 (pg : Int), .bool r, .bool q, .bool x, .bool raw]] w fun e w' => ∃ z, e = .returned (.bool z) ∧ SZ W w X v bt p pm pool (o + 1000) M C Z root br bf E L fr z w' := by
  have HH : Hid (BJ W X w bt p pm pool o M C Z root E br bf v L fr false ∧ L.length ≤ 800000 ∧ (-100000000 ≤ fr ∧ fr ≤ 100000000) ∧ o < 100000000000000000 ∧ ∀ i, X i → i < w.heap.size) := ⟨h, hl, hf, ho, hX⟩
  have HP : Hid (pg < 18446744073709551616) := hpg
  obtain ⟨p1, hp1, lp1⟩ : ∃ p1, p1 = pgT pg ∧ p1 < 18446744073709551616 := ⟨_, rfl, by have := pgT_lt pg; omega⟩
  have HQ : Hid (p1 < 18446744073709551616) := lp1
  obtain ⟨fa, ea, fa0, fa1⟩ : ∃ fa : Int, bits .and .i64 fm 1023 = fa ∧ 0 ≤ fa ∧ fa < 1024 := ⟨_, mask10 _, Int.emod_nonneg _ (by decide), Int.emod_lt_of_pos _ (by decide)⟩
  obtain ⟨w1, hw1⟩ : ∃ w1, w1 = w.alloc (.cells #[.int .i64 kd, .int .i64 fm, .int .i64 sf, .int .u64 (pg : Int), .bool r, .bool q, .bool x, .bool raw] 41) := ⟨_, rfl⟩
  obtain ⟨b5, hb5⟩ : ∃ b5, b5 = w.heap.size := ⟨_, rfl⟩
  have HF : Hid (Kp w w1 ∧ OPX w1 b5 kd fm sf (pg : Int) r q x raw) := ⟨by rw [hw1]; exact (Kp.refl w).alloc _, by rw [hw1, hb5]; exact heap_alloc_new w _⟩
  have kP : Aside (∀ P : KeptBy w1, Calls Tryz.prog 13 #[.int .u64 (pg : Int)] P.v fun e w' => e = .returned (.int .u64 (p1 : Int)) ∧ Kp P.v w') := fun P => by rw [hp1]; exact page_tab pg P.v
  clear h hl hf ho hX hpg hp1 lp1
  go_enter Tryz.func9, Tryz.ntmps9
  go_wp2_with fail
  rw [← hw1, ← hb5]
  have HB : Hid (w.heap.size ≤ b5) := (by omega : w.heap.size ≤ b5)
  clear hw1 hb5
  have kb : Nonempty (KeptBy w1) := KeptBy.some
  have g3 : ∀ P : KeptBy w1, P.v.cell? ⟨b5, 3, none⟩ = some (.int .u64 (pg : Int)) := fun P => (HF.out.2.kp P.k).cells.2.2.2.1
  have g1 : ∀ P : KeptBy w1, P.v.cell? ⟨b5, 1, none⟩ = some (.int .i64 fm) := fun P => (HF.out.2.kp P.k).cells.2.1
  refine wp_region_kept mixed (by kernel_rfl) ?_
  repeat (go_big_quiet_step (first | exact rfl | (go_at_call 13; with_reducible refine Calls.kept_of (kP.out _))))
  refine wpQuiet_nil ?_
  intro _ hw'
  obtain ⟨⟨wq, kq⟩, hw''⟩ := hw'
  subst hw''
  have HG := HF.out.2.kp kq
  have HF2 : Hid (Kp w _ ∧ OPX _ b5 kd fm sf (pg : Int) r q x raw) := ⟨HF.out.1.trans kq, HG⟩
  have g7 := HG.cells.2.2.2.2.2.2.2
  clear kb g3 g1 kP HF kq HG
  generalize fa + 100 = f1 at *
  go_upto_if 31 with fail
  go_cut [7, 8] (fun v7 v8 wx => ∃ (p2 : Nat) (f2 : Int), v7 = .int .u64 (p2 : Int) ∧ v8 = .int .i64 f2 ∧ Hid (p2 < 18446744073709551616 ∧ Kp w wx ∧ OPX wx b5 kd fm sf (pg : Int) r q x raw))
  case first =>
    cases raw
    · go_wp2_with fail
      go_meet
      case rel => exact ⟨p1, f1, rfl, rfl, HQ.out, HF2.out⟩
    · have q3 := HF2.out.2.cells.2.2.2.1
      have q1 := HF2.out.2.cells.2.1
      go_wp2_with fail
      go_quiet (fail)
      go_wp2_with fail
      go_meet
      case rel => exact ⟨pg, fm, rfl, rfl, HP.out, HF2.out.1.drewN _, HF2.out.2.kp ((Kp.refl _).drewN _)⟩
  case rest =>
    obtain ⟨p2, f2, rfl, rfl, H2⟩ := hcut
    have c := H2.out.2.2.cells
    have c4 := c.2.2.2.2.1
    have c5 := c.2.2.2.2.2.1
    have c6 := c.2.2.2.2.2.2.1
    have c2 := c.2.2.1
    clear c HF2 HQ ea fa0 fa1 g7
    have kA : Kp wc (wc.alloc (.cells #[.bool r, .bool q, .bool x] 39)) := (Kp.refl wc).alloc _
    have d2 := (H2.out.2.2.kp kA).cells.2.2.1
    have H3 : Hid (Kp w (wc.alloc (.cells #[.bool r, .bool q, .bool x] 39)) ∧ OPX (wc.alloc (.cells #[.bool r, .bool q, .bool x] 39)) b5 kd fm sf (pg : Int) r q x raw ∧ PX (wc.alloc (.cells #[.bool r, .bool q, .bool x] 39)) wc.heap.size r q x ∧ w.heap.size ≤ wc.heap.size ∧ b5 < wc.heap.size) := ⟨H2.out.2.1.trans kA, H2.out.2.2.kp kA, PX.made wc r q x, H2.out.2.1.size, H2.out.2.2.lt⟩
    have H2p : Hid (p2 < 18446744073709551616) := H2.out.1
    obtain ⟨z, hz⟩ : ∃ z, bits .and .i64 sf 16 = z := ⟨_, rfl⟩
    clear kA H2
    go_upto_if 41 with fail
    generalize wc.alloc (.cells #[.bool r, .bool q, .bool x] 39) = w3 at *
    generalize wc.heap.size = b9 at *
    clear d2 c2 c4 c5 c6
    go_cut [] (fun wx => ∃ R Q Y : Bool, Hid (Kp w wx ∧ OPX wx b5 kd fm sf (pg : Int) r q x raw ∧ PX wx b9 R Q Y))
    case first =>
      by_cases ez : z = 0
      · subst ez
        have e0 := H3.out.2.2.1.c0
        have e1 := H3.out.2.2.1.c1
        have e2 := H3.out.2.2.1.c2
        go_wp2_with fail
        with_reducible refine (right_any r q x _).mono ?_
        rintro e w4 ⟨rfl, k4⟩
        have P4 := H3.out.2.2.1.kp k4
        have e0 := P4.c0
        have e1 := P4.c1
        have e2 := P4.c2
        have f0 := P4.fz 0
        have f1 := P4.fz 1
        have f2 := P4.fz 2
        have H4 : Hid (Kp w (putP w4 b9 r (q && r) x) ∧ OPX (putP w4 b9 r (q && r) x) b5 kd fm sf (pg : Int) r q x raw ∧ PX (putP w4 b9 r (q && r) x) b9 r (q && r) x) := by
          exact ⟨(H3.out.1.trans k4).putP H3.out.2.2.2.1, (H3.out.2.1.kp k4).putP (by have := H3.out.2.2.2.2; omega) _ _ _, P4.put _ _ _⟩
        clear P4 k4
        go_wp2_with fail
        go_meet
        case rel => exact ⟨r, (q && r), x, H4⟩
      · have ez2 : (z == 0) = false := beq_false_of_ne ez
        go_wp2_with fail
        go_meet
        case rel => exact ⟨r, q, x, H3.out.1, H3.out.2.1, H3.out.2.2.1⟩
    case rest =>
      obtain ⟨R, Q, Y, H4⟩ := hcut
      have HB9 : Hid (w.heap.size ≤ b9) := H3.out.2.2.2.1
      clear H3 hz
      have c2 := H4.out.2.1.cells.2.2.1
      have c7 := H4.out.2.1.cells.2.2.2.2.2.2.2
      go_upto_if 48 with fail
      go_cut [10] (fun v10 wx => ∃ s : Int, v10 = .int .i64 s ∧ Hid (Kp w wx ∧ OPX wx b5 kd fm sf (pg : Int) r q x raw ∧ PX wx b9 R Q Y))
      case first =>
        obtain ⟨z1, hz1⟩ : ∃ z, bits .and .i64 sf 1 = z := ⟨_, rfl⟩
        cases raw
        · go_wp2_with fail
          go_meet
          case rel => exact ⟨z1, rfl, H4⟩
        · go_wp2_with fail
          go_meet
          case rel => exact ⟨sf, rfl, H4⟩
      case rest =>
        obtain ⟨s, rfl, H5⟩ := hcut
        clear H4 c2 c7
        have c0 := H5.out.2.1.cells.1
        have c7 := H5.out.2.1.cells.2.2.2.2.2.2.2
        rename_i hK
        refine hK _ _ ?_
        clear hK
        go_step
        go_cut [7, 8] (fun v7 v8 wx => ∃ (p3 : Nat) (f3 : Int), v7 = .int .u64 (p3 : Int) ∧ v8 = .int .i64 f3 ∧ Hid (p3 < 18446744073709551616 ∧ Kp w wx ∧ OPX wx b5 kd fm sf (pg : Int) r q x raw ∧ PX wx b9 R Q Y))
        case first =>
          by_cases h3 : m = 3
          · subst h3
            cases raw
            · obtain ⟨p3, ep3, lp3⟩ : ∃ p3 : Nat, bits .andNot .u64 (p2 : Int) 511 = (p3 : Int) ∧ p3 < 18446744073709551616 := ⟨_, andn_511 p2 H2p.out, by have := H2p.out; omega⟩
              obtain ⟨f3, ef3⟩ : ∃ f3, bits .andNot .i64 f2 511 = f3 := ⟨_, rfl⟩
              go_wp2_with fail
              go_meet
              case rel => exact ⟨p3, f3, rfl, rfl, lp3, H5.out⟩
            · go_wp2_with fail
              go_meet
              case rel => exact ⟨p2, f2, rfl, rfl, H2p.out, H5.out⟩
          · have e3 : ((m : Int) == 3) = false := by rw [beq_eq_false_iff_ne]; omega
            go_wp2_with fail
            go_meet
            case rel => exact ⟨p2, f2, rfl, rfl, H2p.out, H5.out⟩
        case rest =>
          obtain ⟨p3, f3, rfl, rfl, H6⟩ := hcut
          clear H5 c0 c7 H2p
          rename_i hK
          exact hK _ _ (step_switch HH.out H6.out.1 H6.out.2.1 HB9.out H6.out.2.2.1 H6.out.2.2.2 k1 k2 k3 k4 k5 k6)

end Go.Proofs.YtanlcmdnhhdhaaaGreatDoor
