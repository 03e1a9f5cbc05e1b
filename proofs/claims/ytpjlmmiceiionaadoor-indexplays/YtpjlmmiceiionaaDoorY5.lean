/- IndexPlays. -/
import Derived.Test.YtpjlmmiceiionaaDoorJ46
import Derived.Deep.RegionHeld3
import Derived.Deep.CutBlock
import Derived.Deep.DeepCutAuto
namespace Go.Proofs.YtpjlmmiceiionaaDoor
open Go.RowKit Go.Maps
set_option maxRecDepth 10000

set_option maxHeartbeats 32000000 in
theorem plays20_any (na : Option Addr) (mc cap : Nat) (V : Nat → Int × Int × Int × Int) (w : World) (hO : Steps w na mc V) (hm : mc ≤ maxLen) (T : TAB w) :
    Calls Tryd.prog 3 #[.slice na mc cap] w fun e w' => e = .returned (.bool true) ∧ Kp w w' := by
  have c1 := imade_any w T
  have HO : Hid (Steps w na mc V) := hO
  have HT : Hid (TAB w) := T
  have y0 : (mc : Int) ≤ 9223372036854775807 := by unfold maxLen at hm; omega
  clear hO hm T
  go_enter Tryd.func3, Tryd.ntmps3
  go_wp2_with fail
  with_reducible refine c1.mono ?_
  rintro e w1 ⟨p, pm, rfl, t1, k1⟩
  have H1 := hidG (And.intro t1 k1)
  have c2 := frames20_any t1
  clear t1 k1 c1
  go_wp2_with fail
  with_reducible refine c2.mono ?_
  rintro e w2 ⟨vf, Bs, rfl, k2, q2⟩
  obtain ⟨nf, cf, ev, _, _, _⟩ := q2.ax.form LTpg_ok
  have I0 := hidG (IPL.start HT.out H1.out.1 H1.out.2 k2 q2)
  rw [ev] at I0 ⊢
  clear c2 k2 q2 ev H1
  generalize Bs.length = nB at *
  go_upto_block 0 with fail
  obtain ⟨r, hr⟩ : ∃ r, r = w2.heap.size := ⟨_, rfl⟩
  generalize w2.alloc (.cells #[.slice nf nB cf, .slice none 0 0] 32) = w3 at *
  rw [← hr] at I0 ⊢
  clear hr
  go_cut [] (fun wx => Hid (Kp w wx))
  case first =>
    go_wp2_with fail
    go_loopg [7] 61 (fun gk v7 wr => ∃ i : Nat, v7 = .int .i64 (i : Int) ∧ i ≤ 60 ∧ 61 - i ≤ gk ∧ Hid (IPL w wr p pm r i))
    case atStart => exact ⟨0, rfl, by omega, by omega, I0⟩
    case round =>
      clear I0
      obtain ⟨i, rfl, hi, hgk, HI⟩ := hrel
      by_cases hlt : i < mc ∧ i < 60
      · have y1 : (i : Int) < mc := by omega
        have y2 : (i : Int) < 60 := by omega
        obtain ⟨⟨cb, co, rfl, d1, c0, c1, c2, c3⟩, wk, wf, wa, wv⟩ := HO.out i hlt.1
        obtain ⟨kd, hkd⟩ : ∃ kd, kd = (V i).1 := ⟨_, rfl⟩
        obtain ⟨fr, hfr⟩ : ∃ fr, fr = (V i).2.1 := ⟨_, rfl⟩
        obtain ⟨at_, hat⟩ : ∃ at_, at_ = (V i).2.2.1 := ⟨_, rfl⟩
        obtain ⟨vv, hvv⟩ : ∃ vv, vv = (V i).2.2.2 := ⟨_, rfl⟩
        rw [← hkd] at c0 wk
        rw [← hfr] at c1 wf
        rw [← hat] at c2 wa
        rw [← hvv] at c3 wv
        clear hvv
        obtain ⟨u1, u2⟩ := wf_word wv
        obtain ⟨vn, rfl⟩ : ∃ vn : Nat, vv = (vn : Int) := ⟨vv.toNat, by omega⟩
        have wv2 : vn < 18446744073709551616 := by omega
        have kk := HI.out.kpw
        have o0 := (kk.cell (p := ⟨cb, co + i * 4, none⟩) d1).trans c0
        have o1 := (kk.cell (p := ⟨cb, co + i * 4 + 1, none⟩) d1).trans c1
        have o2 := (kk.cell (p := ⟨cb, co + i * 4 + 2, none⟩) d1).trans c2
        have o3 := (kk.cell (p := ⟨cb, co + i * 4 + 3, none⟩) d1).trans c3
        have WX := hidG (And.intro wf (And.intro wa wv2))
        obtain ⟨F, Sg, T3⟩ := HI.out.box #[.int .i64 kd, .int .i64 fr, .int .i64 at_, .int .u64 (vn : Int)]
        clear kk d1 c0 c1 c2 c3 wk wf wa wv wv2 u1 u2 hkd hfr hat HI
        go_upto_region 9 with fail
        generalize wr.alloc (.cells #[.int .i64 kd, .int .i64 fr, .int .i64 at_, .int .u64 (vn : Int)] 35) = w4 at *
        generalize wr.heap.size = bo at *
        clear o0 o1 o2 o3
        have e0 : w4.cell? ⟨bo, 0, none⟩ = some (.int .i64 kd) := by rw [T3.cell]; rfl
        have e1 : w4.cell? ⟨bo, 1, none⟩ = some (.int .i64 fr) := by rw [T3.cell]; rfl
        have e2 : w4.cell? ⟨bo, 2, none⟩ = some (.int .i64 at_) := by rw [T3.cell]; rfl
        have e3 : w4.cell? ⟨bo, 3, none⟩ = some (.int .u64 (vn : Int)) := by rw [T3.cell]; rfl
        have HX := hidG T3
        clear T3
        obtain ⟨t, m, k1, k2, k3, k4, k5⟩ := place7 kd 7 (by omega)
        rw [show ((7 : Nat) : Int) = 7 from rfl] at k1 k2 k3 k4
        go_upto_block 2 with fail
        go_cut [9, 10] (fun v9 v10 wx => ∃ z : Int, v9 = .int .i64 z ∧ v10 = .int .i64 z ∧ Hid (∃ F Sg, IPM w wx p pm r bo (i + 1) #[.int .i64 kd, .int .i64 fr, .int .i64 at_, .int .u64 (vn : Int)] F F Sg Sg))
        case first =>
          clear k1 k2 k3 k4
          by_cases f0 : m = 0
          · have g0 : ((m : Int) == 0) = true := by simp; omega
            clear f0 k5
            as_aux_lemma =>
              have cA := (HX.out.kp (Kp.refl w4).drew).padd fr
              have cU : Aside (∀ v, IPM w v p pm r bo i #[.int .i64 kd, .int .i64 fr, .int .i64 at_, .int .u64 (vn : Int)] F F (addS Sg F fr) Sg → Calls Tryd.prog 9 #[.pointer (some ⟨r, 0, none⟩), .int .i64 fr] v fun e w' => e = .returned (.int .i64 (addA Sg fr)) ∧ IPM w w' p pm r bo i #[.int .i64 kd, .int .i64 fr, .int .i64 at_, .int .u64 (vn : Int)] F F (addS Sg F fr) (addS Sg F fr)) := fun v h => h.radd HX.out.sg fr
              have XC : Aside (∀ v F1 F2 S1 S2, IPM w v p pm r bo i #[.int .i64 kd, .int .i64 fr, .int .i64 at_, .int .u64 (vn : Int)] F1 F2 S1 S2 → v.cell? ⟨bo, 1, none⟩ = some (.int .i64 fr)) := fun v _ _ _ _ h => by rw [h.cell]; rfl
              obtain ⟨z, hz⟩ : ∃ z, z = addA Sg fr := ⟨_, rfl⟩
              rw [← hz] at cA cU
              clear hz HX e2 e3
              go_wp2_with fail
              go_region_held3 (fun v => v.cell? ⟨bo, 1, none⟩ = some (.int .i64 fr))
                (first | go_keep | exact XC.out _ _ _ _ _ X5 | exact XC.out _ _ _ _ _ X4)
                (first | (go_at_call 8; with_reducible refine cA.mono ?_; rintro e w5 ⟨rfl, X4⟩) | (go_at_call 9; with_reducible refine (cU.out _ X4).mono ?_; rintro e w6 ⟨rfl, X5⟩))
              all_goals
                have HY : Hid (∃ F Sg, IPM w w6 p pm r bo (i + 1) #[.int .i64 kd, .int .i64 fr, .int .i64 at_, .int .u64 (vn : Int)] F F Sg Sg) := ⟨F, _, X5.more (Nat.le_succ i)⟩
                clear X4 X5 cA cU XC e0 e1
                go_wp2_with fail
                go_meet
                case rel => exact ⟨z, rfl, rfl, HY⟩
          · have g0 : ((m : Int) == 0) = false := by simp; omega
            by_cases f1 : m = 1
            · have g1 : ((m : Int) == 1) = true := by simp; omega
              clear f0 f1 k5
              as_aux_lemma =>
                have cA := (HX.out.kp (Kp.refl w4).drew).padd fr
                have cU : Aside (∀ v, IPM w v p pm r bo i #[.int .i64 kd, .int .i64 fr, .int .i64 at_, .int .u64 (vn : Int)] F F (addS Sg F fr) Sg → Calls Tryd.prog 9 #[.pointer (some ⟨r, 0, none⟩), .int .i64 fr] v fun e w' => e = .returned (.int .i64 (addA Sg fr)) ∧ IPM w w' p pm r bo i #[.int .i64 kd, .int .i64 fr, .int .i64 at_, .int .u64 (vn : Int)] F F (addS Sg F fr) (addS Sg F fr)) := fun v h => h.radd HX.out.sg fr
                have XC : Aside (∀ v F1 F2 S1 S2, IPM w v p pm r bo i #[.int .i64 kd, .int .i64 fr, .int .i64 at_, .int .u64 (vn : Int)] F1 F2 S1 S2 → v.cell? ⟨bo, 1, none⟩ = some (.int .i64 fr)) := fun v _ _ _ _ h => by rw [h.cell]; rfl
                obtain ⟨z, hz⟩ : ∃ z, z = addA Sg fr := ⟨_, rfl⟩
                rw [← hz] at cA cU
                clear hz HX e2 e3
                go_wp2_with fail
                go_region_held3 (fun v => v.cell? ⟨bo, 1, none⟩ = some (.int .i64 fr))
                  (first | go_keep | exact XC.out _ _ _ _ _ X5 | exact XC.out _ _ _ _ _ X4)
                  (first | (go_at_call 8; with_reducible refine cA.mono ?_; rintro e w5 ⟨rfl, X4⟩) | (go_at_call 9; with_reducible refine (cU.out _ X4).mono ?_; rintro e w6 ⟨rfl, X5⟩))
                all_goals
                  have HY : Hid (∃ F Sg, IPM w w6 p pm r bo (i + 1) #[.int .i64 kd, .int .i64 fr, .int .i64 at_, .int .u64 (vn : Int)] F F Sg Sg) := ⟨F, _, X5.more (Nat.le_succ i)⟩
                  clear X4 X5 cA cU XC e0 e1
                  go_wp2_with fail
                  go_meet
                  case rel => exact ⟨z, rfl, rfl, HY⟩
            · have g1 : ((m : Int) == 1) = false := by simp; omega
              by_cases f2 : m = 2
              · have g2 : ((m : Int) == 2) = true := by simp; omega
                clear f0 f1 f2 k5
                as_aux_lemma =>
                  have cA := (HX.out.kp (Kp.refl w4).drew).pdrop fr WX.out.1
                  have cU : Aside (∀ v, IPM w v p pm r bo i #[.int .i64 kd, .int .i64 fr, .int .i64 at_, .int .u64 (vn : Int)] F F (dropS Sg fr) Sg → Calls Tryd.prog 11 #[.pointer (some ⟨r, 0, none⟩), .int .i64 fr] v fun e w' => e = .returned (.int .i64 (dropA Sg fr)) ∧ IPM w w' p pm r bo i #[.int .i64 kd, .int .i64 fr, .int .i64 at_, .int .u64 (vn : Int)] F F (dropS Sg fr) (dropS Sg fr)) := fun v h => h.rdrop HX.out.sg fr
                  have XC : Aside (∀ v F1 F2 S1 S2, IPM w v p pm r bo i #[.int .i64 kd, .int .i64 fr, .int .i64 at_, .int .u64 (vn : Int)] F1 F2 S1 S2 → v.cell? ⟨bo, 1, none⟩ = some (.int .i64 fr)) := fun v _ _ _ _ h => by rw [h.cell]; rfl
                  obtain ⟨z, hz⟩ : ∃ z, z = dropA Sg fr := ⟨_, rfl⟩
                  rw [← hz] at cA cU
                  clear hz HX e2 e3
                  go_wp2_with fail
                  go_region_held3 (fun v => v.cell? ⟨bo, 1, none⟩ = some (.int .i64 fr))
                    (first | go_keep | exact XC.out _ _ _ _ _ X5 | exact XC.out _ _ _ _ _ X4)
                    (first | (go_at_call 10; with_reducible refine cA.mono ?_; rintro e w5 ⟨rfl, X4⟩) | (go_at_call 11; with_reducible refine (cU.out _ X4).mono ?_; rintro e w6 ⟨rfl, X5⟩))
                  all_goals
                    have HY : Hid (∃ F Sg, IPM w w6 p pm r bo (i + 1) #[.int .i64 kd, .int .i64 fr, .int .i64 at_, .int .u64 (vn : Int)] F F Sg Sg) := ⟨F, _, X5.more (Nat.le_succ i)⟩
                    clear X4 X5 cA cU XC e0 e1
                    go_wp2_with fail
                    go_meet
                    case rel => exact ⟨z, rfl, rfl, HY⟩
              · have g2 : ((m : Int) == 2) = false := by simp; omega
                by_cases f3 : m = 3
                · have g3 : ((m : Int) == 3) = true := by simp; omega
                  clear f0 f1 f2 f3 k5
                  as_aux_lemma =>
                    obtain ⟨g, g1, g2⟩ := and_lim fr 15 (by decide)
                    obtain ⟨a, a1, a2⟩ := and_lim at_ 7 (by decide)
                    rw [show ((15 : Nat) : Int) = 15 from rfl] at g1
                    rw [show ((7 : Nat) : Int) = 7 from rfl] at a1
                    have cW := HX.out.pwrite g a vn (by omega) (by omega) WX.out.2.2 (by omega)
                    rw [show ((g * 4096 + 8 * a : Nat) : Int) = (g : Int) * 4096 + 8 * (a : Int) by omega] at cW
                    clear HX
                    go_wp2_with fail
                    with_reducible refine cW.mono ?_
                    rintro e w5 ⟨⟨z, rfl⟩, X4⟩
                    have cF := X4.frames
                    clear cW X4 e0 e1 e2 e3 g1 a1
                    go_wp2_with fail
                    with_reducible refine cF.mono ?_
                    rintro e w6 ⟨vf, rfl, XF⟩
                    obtain ⟨va, vb, vc, rfl⟩ := XF.form
                    obtain ⟨f6, u, hu⟩ := XF.fz
                    have HY : Hid (∃ F Sg, IPM w (w6.setCell ⟨r, 0, none⟩ (.slice va vb vc)) p pm r bo (i + 1) #[.int .i64 kd, .int .i64 fr, .int .i64 at_, .int .u64 (vn : Int)] F F Sg Sg) := ⟨_, _, XF.store⟩
                    clear cF XF
                    go_wp2_with fail
                    go_meet
                    case rel => exact ⟨0, rfl, rfl, HY⟩
                · have g3 : ((m : Int) == 3) = false := by simp; omega
                  by_cases f4 : m = 4
                  · have g4 : ((m : Int) == 4) = true := by simp; omega
                    clear f0 f1 f2 f3 f4 k5
                    as_aux_lemma =>
                      obtain ⟨g, g1, g2⟩ := and_lim fr 15 (by decide)
                      obtain ⟨a, a1, a2⟩ := and_lim at_ 7 (by decide)
                      rw [show ((15 : Nat) : Int) = 15 from rfl] at g1
                      rw [show ((7 : Nat) : Int) = 7 from rfl] at a1
                      have cW := HX.out.pwrite g a vn (by omega) (by omega) WX.out.2.2 (by omega)
                      rw [show ((g * 4096 + 8 * a : Nat) : Int) = (g : Int) * 4096 + 8 * (a : Int) by omega] at cW
                      clear HX
                      go_wp2_with fail
                      with_reducible refine cW.mono ?_
                      rintro e w5 ⟨⟨z, rfl⟩, X4⟩
                      have cF := X4.frames
                      clear cW X4 e0 e1 e2 e3 g1 a1
                      go_wp2_with fail
                      with_reducible refine cF.mono ?_
                      rintro e w6 ⟨vf, rfl, XF⟩
                      obtain ⟨va, vb, vc, rfl⟩ := XF.form
                      obtain ⟨f6, u, hu⟩ := XF.fz
                      have HY : Hid (∃ F Sg, IPM w (w6.setCell ⟨r, 0, none⟩ (.slice va vb vc)) p pm r bo (i + 1) #[.int .i64 kd, .int .i64 fr, .int .i64 at_, .int .u64 (vn : Int)] F F Sg Sg) := ⟨_, _, XF.store⟩
                      clear cF XF
                      go_wp2_with fail
                      go_meet
                      case rel => exact ⟨0, rfl, rfl, HY⟩
                  · have g4 : ((m : Int) == 4) = false := by simp; omega
                    by_cases f5 : m = 5
                    · have g5 : ((m : Int) == 5) = true := by simp; omega
                      clear f0 f1 f2 f3 f4 f5 k5
                      as_aux_lemma =>
                        by_cases hx : hasF 12 fr = true
                        · have hx2 := (hasF_iff 12 fr).1 hx
                          obtain ⟨x, rfl⟩ : ∃ x : Nat, fr = (x : Int) := ⟨fr.toNat, by omega⟩
                          have cG := HX.out.pget_ok x (by omega)
                          clear hx hx2 HX e2 e3
                          go_wp2_with fail
                          with_reducible refine cG.mono ?_
                          rintro e w5 ⟨b, rfl, b5, X5⟩
                          have cf := X5.pfind b5 (Nat.le_refl _) (x : Int)
                          have e5 : w5.cell? ⟨bo, 1, none⟩ = some (.int .i64 (x : Int)) := by rw [X5.cell]; rfl
                          obtain ⟨z, hz⟩ : ∃ z, (fndR Sg 12 F (F x) (x : Int)).getD 0 = z := ⟨_, rfl⟩
                          obtain ⟨q, hq⟩ : ∃ q, (fndR Sg 12 F (F x) (x : Int)).isSome = q := ⟨_, rfl⟩
                          rw [hz, hq] at cf
                          have HZ := hidG (And.intro hz hq)
                          clear cG b5 X5 e0 e1 hz hq
                          go_wp2_with fail
                          with_reducible refine cf.mono ?_
                          rintro e w6 ⟨rfl, b6, X6⟩
                          have cr := X6.rfind (cap := 4096) b6 (x : Int)
                          have e6 : w6.cell? ⟨bo, 1, none⟩ = some (.int .i64 (x : Int)) := by rw [X6.cell]; rfl
                          rw [HZ.out.1, HZ.out.2] at cr
                          clear cf b6 X6 e5
                          go_wp2_with fail
                          with_reducible refine cr.mono ?_
                          rintro e w7 ⟨rfl, X7⟩
                          have HY : Hid (∃ F Sg, IPM w w7 p pm r bo (i + 1) #[.int .i64 kd, .int .i64 (x : Int), .int .i64 at_, .int .u64 (vn : Int)] F F Sg Sg) := ⟨_, _, X7.more (Nat.le_succ i)⟩
                          clear cr X7 e6
                          cases q with
                          | true =>
                            go_wp2_with fail
                            go_meet
                            case rel => exact ⟨0, rfl, rfl, HY⟩
                          | false =>
                            go_wp2_with fail
                            go_meet
                            case rel => exact ⟨0, rfl, rfl, HY⟩
                        · have hx : hasF 12 fr = false := by simpa using hx
                          have cG := HX.out.pget_no fr hx
                          clear hx HX e2 e3
                          go_wp2_with fail
                          with_reducible refine cG.mono ?_
                          rintro e w5 ⟨rfl, X5⟩
                          have cf := X5.pfind_no none 0 0 (by decide) fr
                          have e5 : w5.cell? ⟨bo, 1, none⟩ = some (.int .i64 fr) := by rw [X5.cell]; rfl
                          clear cG X5 e0 e1
                          go_wp2_with fail
                          with_reducible refine cf.mono ?_
                          rintro e w6 ⟨rfl, X6⟩
                          have cr := X6.rfind_no none 0 0 (by decide) fr
                          have e6 : w6.cell? ⟨bo, 1, none⟩ = some (.int .i64 fr) := by rw [X6.cell]; rfl
                          have H6 := hidG X6
                          clear cf X6 e5
                          go_wp2_with fail
                          with_reducible refine cr.mono ?_
                          rintro e w7 ⟨rfl, k7⟩
                          have HY : Hid (∃ F Sg, IPM w w7 p pm r bo (i + 1) #[.int .i64 kd, .int .i64 fr, .int .i64 at_, .int .u64 (vn : Int)] F F Sg Sg) := ⟨_, _, (H6.out.kp k7).more (Nat.le_succ i)⟩
                          clear cr k7 e6 H6
                          go_wp2_with fail
                          go_meet
                          case rel => exact ⟨0, rfl, rfl, HY⟩
                    · have g5 : ((m : Int) == 5) = false := by simp; omega
                      clear f0 f1 f2 f3 f4 f5 k5
                      as_aux_lemma =>
                        obtain ⟨x8, hx8⟩ : ∃ x8, x8 = IntKind.u8.wrap (vn : Int) := ⟨_, rfl⟩
                        have hx9 : IntKind.u8.wrap (vn : Int) = x8 := hx8.symm
                        have hw8 : (Lit.int .u8 x8).wf = true := by rw [hx8]; exact u8_wf _
                        obtain ⟨wa, hwa⟩ : ∃ wa, wa = w4.alloc (.cells #[.int .i64 at_] 3) := ⟨_, rfl⟩
                        obtain ⟨wb, hwb⟩ : ∃ wb, wb = wa.alloc (.cells #[.int .u8 x8] 5) := ⟨_, rfl⟩
                        have ka : Kp w4 wa := by rw [hwa]; exact (Kp.refl w4).alloc _
                        have kb : Kp wa wb := by rw [hwb]; exact (Kp.refl wa).alloc _
                        have NA : NSK .i64 wb (some ⟨w4.heap.size, 0, none⟩) 1 (fun _ => at_) := by
                          have := nsk_one (k := .i64) WX.out.2.1 w4 3
                          rw [← hwa] at this
                          exact this.kp kb
                        have NB : NSK .u8 wb (some ⟨wa.heap.size, 0, none⟩) 1 (fun _ => x8) := by rw [hwb]; exact nsk_one hw8 wa 5
                        have e7 : wa.cell? ⟨bo, 3, none⟩ = some (.int .u64 (vn : Int)) := by rw [(HX.out.kp ka).cell]; rfl
                        have cP := (HX.out.kp (ka.trans kb)).page (cap := 1) (capb := 1) NA NB
                        rw [hwb, hwa] at cP
                        rw [hwa] at e7
                        simp only [World.size_alloc] at cP
                        clear ka kb NA NB hwb hwa hw8 HX e0 e1 hx8
                        go_wp2_with fail
                        with_reducible refine cP.mono ?_
                        rintro e w5 ⟨b, f, rfl, b5, X5⟩
                        have cf := X5.pfind b5 (Nat.le_refl _) (-1)
                        obtain ⟨z, hz⟩ : ∃ z, (fndR Sg 12 F f (-1)).getD 0 = z := ⟨_, rfl⟩
                        obtain ⟨q, hq⟩ : ∃ q, (fndR Sg 12 F f (-1)).isSome = q := ⟨_, rfl⟩
                        rw [hz, hq] at cf
                        have HZ := hidG (And.intro hz hq)
                        clear cP b5 X5 e2 e3 e7 hx9 hz hq
                        go_wp2_with fail
                        with_reducible refine cf.mono ?_
                        rintro e w6 ⟨rfl, b6, X6⟩
                        have cr := X6.rfind (cap := 4096) b6 (-1)
                        rw [HZ.out.1, HZ.out.2] at cr
                        clear cf b6 X6
                        go_wp2_with fail
                        with_reducible refine cr.mono ?_
                        rintro e w7 ⟨rfl, X7⟩
                        have HY : Hid (∃ F Sg, IPM w w7 p pm r bo (i + 1) #[.int .i64 kd, .int .i64 fr, .int .i64 at_, .int .u64 (vn : Int)] F F Sg Sg) := ⟨_, _, X7.more (Nat.le_succ i)⟩
                        clear cr X7
                        cases q with
                        | true =>
                          go_wp2_with fail
                          go_meet
                          case rel => exact ⟨0, rfl, rfl, HY⟩
                        | false =>
                          go_wp2_with fail
                          go_meet
                          case rel => exact ⟨0, rfl, rfl, HY⟩
        case rest =>
          obtain ⟨z, rfl, rfl, HY⟩ := hcut
          clear HX e0 e1 e2 e3 k1 k2 k3 k4 k5 F Sg
          obtain ⟨F, Sg, XM⟩ := HY.out
          have X5 := XM.kp ((Kp.refl wc).alloc (.cells #[.int .u8 1] 5))
          have cR := X5.rfind_no (some ⟨wc.heap.size, 0, none⟩) 1 1 (by decide) (-1)
          have H5 := hidG X5
          clear XM X5
          go_wp2_with fail
          with_reducible refine cR.mono ?_
          rintro e w6 ⟨rfl, k6⟩
          have X6 := H5.out.kp k6
          have H6 := hidG X6
          obtain ⟨nl, cl, cL, sL⟩ := X6.list
          obtain ⟨L, hL⟩ : ∃ L, L = inL Sg := ⟨_, rfl⟩
          rw [← hL] at cL sL
          obtain ⟨n, hn⟩ : ∃ n, n = L.length := ⟨_, rfl⟩
          rw [← hn] at cL
          have bn : (n : Int) ≤ 12 := by have := inL_len Sg; rw [← hL, ← hn] at this; omega
          have HN := hidG (show n = L.length ∧ L = inL Sg ∧ AS LTin w6 nl L ∧ r < w6.heap.size from ⟨hn, hL, sL, X6.lr.1⟩)
          have A1 : Aside (∀ v, Kp w6 v → Calls Tryd.prog 17 #[.pointer (some ⟨p, 0, none⟩)] v fun e w' => e = .returned (.int .i64 (n : Int)) ∧ Kp w6 w') := fun v k => by
            rw [hn, hL]
            exact (X6.kp k).pcount.mono fun _ _ ⟨e, k2⟩ => ⟨e, k.trans k2⟩
          have A2 : Aside (∀ v, Kp w6 v → Calls Tryd.prog 19 #[.pointer (some ⟨p, 0, none⟩)] v fun e w' => ∃ u M, e = .returned u ∧ GrT w' u M Sg ∧ Kp w6 w') := fun v k =>
            (X6.kp k).palike.mono fun _ _ ⟨u, M, e, g, k2⟩ => ⟨u, M, e, g, k.trans k2⟩
          have A3 : Aside (∀ v u M, Kp w6 v → GrT v u M Sg → Calls Tryd.prog 20 #[.pointer (some ⟨r, 0, none⟩)] v fun e w' => ∃ u' M', e = .returned u' ∧ (GrT w' u M Sg ∧ GrT w' u' M' Sg) ∧ Kp w6 w') := fun v u M k g =>
            (X6.kp k).ralike.mono fun _ _ ⟨u', M', e, g', k2⟩ => ⟨u', M', e, ⟨g.kp k2, g'⟩, k.trans k2⟩
          have A4 : Aside (∀ v u M u' M', Kp w6 v → GrT v u M Sg ∧ GrT v u' M' Sg → Calls Tryd.prog 18 #[u, u'] v fun e w' => e = .returned (.bool true) ∧ Kp w6 w') := fun v u M u' M' k g =>
            (groups_any g.1 g.2).mono fun _ _ ⟨e, k2⟩ => ⟨e, k.trans k2.kp⟩
          have XC : Aside (∀ v, Kp w6 v → v.cell? ⟨r, 1, none⟩ = some (.slice nl n cl)) := fun v k => (k.cell (p := ⟨r, 1, none⟩) HN.out.2.2.2).trans cL
          have XE : Aside (∀ v, Kp w6 v → v.cell? ⟨bo, 1, none⟩ = some (.int .i64 fr)) := fun v k => by rw [(X6.kp k).cell]; rfl
          have X0 : Kp w6 w6.drew := (Kp.refl w6).drew
          clear cR k6 H5 X6 cL sL hL hn HY
          go_wp2_with fail
          go_region_held3 (fun v => v.cell? ⟨r, 1, none⟩ = some (.slice nl n cl))
            (first | exact XC.out _ X0 | exact XC.out _ YA | exact XC.out _ Y9 | exact XC.out _ Y8 | exact XC.out _ Y7)
            (first
              | (go_at_call 17; with_reducible refine (A1.out _ X0).mono ?_; rintro e w7 ⟨rfl, Y7⟩)
              | (go_at_call 19; with_reducible refine (A2.out _ Y7).mono ?_; rintro e w8 ⟨u8, M8, rfl, G8, Y8⟩)
              | (go_at_call 20; with_reducible refine (A3.out _ _ _ Y8 G8).mono ?_; rintro e w9 ⟨u9, M9, rfl, G9, Y9⟩)
              | (go_at_call 18; with_reducible refine (A4.out _ _ _ _ _ Y9 G9).mono ?_; rintro e wA ⟨rfl, YA⟩))
          all_goals
            have HZ : Hid (Kp w6 wA) := YA
            clear X0 Y7 G8 Y8 G9 Y9 YA A1 A2 A3 A4
            go_wp2_with fail
            go_loopg [24, 25] (n + 1) (fun gg v24 v25 wr => ∃ j : Nat, v25 = .int .i64 (j : Int) ∧ v24 = .bool (hasTo L j fr) ∧ j ≤ n ∧ n + 1 - j ≤ gg ∧ Hid (Kp w6 wr))
            case atStart => exact ⟨0, rfl, by rw [hasTo_0], by omega, by omega, HZ⟩
            case round =>
              clear HZ
              obtain ⟨j, rfl, rfl, hj, hg, HK⟩ := hrel
              have c1 := XC.out wr HK.out
              have c2 := XE.out wr HK.out
              by_cases hjt : j < n
              · have z1 : (j : Int) < (n : Int) := by omega
                obtain ⟨y, hy⟩ : ∃ y, L[j]? = some y := ⟨_, List.getElem?_eq_getElem (by have := HN.out.1; omega)⟩
                obtain ⟨gb, go, ea, f0, _⟩ := cells_in (HN.out.2.2.1.kp HK.out) hy
                subst ea
                have HF : Hid (hasTo L (j + 1) fr = (hasTo L j fr || ((y.1 : Int) == fr))) := hasTo_next hy fr
                obtain ⟨yy, hyy⟩ : ∃ yy, y.1 = yy := ⟨_, rfl⟩
                rw [hyy] at f0 HF
                obtain ⟨fb, hfb⟩ : ∃ fb, hasTo L j fr = fb := ⟨_, rfl⟩
                rw [hfb] at HF ⊢
                obtain ⟨q, hq⟩ : ∃ q, ((yy : Int) == fr) = q := ⟨_, rfl⟩
                rw [hq] at HF
                clear hy hyy hfb
                cases fb with
                | true =>
                  have HG : Hid (hasTo L (j + 1) fr = true) := by show _ = _; rw [HF.out]; rfl
                  go_wp2_with fail
                  go_quiet (fail)
                  have K2 : Hid (Kp wr (wr.drewN nq)) := (Kp.refl wr).drewN nq
                  go_wp2_with fail
                  go_roundg (n + 1 - (j + 1))
                  case measure => exact measW hjt hg
                  case rel => exact ⟨j + 1, by go_num, by rw [HG.out], hjt, Nat.le_refl _, HK.out.trans K2.out⟩
                | false =>
                  have HG : Hid (hasTo L (j + 1) fr = q) := by show _ = _; rw [HF.out]; rfl
                  go_wp2_with fail
                  go_quiet (fail)
                  have K2 : Hid (Kp wr (wr.drewN nq)) := (Kp.refl wr).drewN nq
                  go_wp2_with fail
                  go_roundg (n + 1 - (j + 1))
                  case measure => exact measW hjt hg
                  case rel => exact ⟨j + 1, by go_num, by rw [HG.out], hjt, Nat.le_refl _, HK.out.trans K2.out⟩
              · have z1 : ¬ (j : Int) < (n : Int) := by omega
                have hjn : j = n := by omega
                subst hjn
                have cH := (H6.out.kp HK.out).phas fr WX.out.1
                rw [HN.out.2.1, hasTo_all H6.out.sg (by rw [← HN.out.2.1, ← HN.out.1]; exact Nat.le_refl _)]
                obtain ⟨b, hb⟩ : ∃ b, (sgI Sg fr).isSome = b := ⟨_, rfl⟩
                rw [hb] at cH ⊢
                clear hb
                go_wp2_with fail
                with_reducible refine cH.mono ?_
                rintro e w5 ⟨rfl, k5⟩
                have HI2 : Hid (IPL w w5 p pm r (i + 1)) := ((H6.out.kp HK.out).kp k5).head
                clear cH k5 c1 c2 HK
                cases b with
                | true =>
                  go_wp2_with fail
                  go_roundg (61 - (i + 1))
                  case measure => omega
                  case rel => exact ⟨i + 1, by go_num, by omega, by omega, HI2⟩
                | false =>
                  go_wp2_with fail
                  go_roundg (61 - (i + 1))
                  case measure => omega
                  case rel => exact ⟨i + 1, by go_num, by omega, by omega, HI2⟩
      · have HK : Hid (Kp w wr) := HI.out.kpw
        clear HI
        by_cases hm : i < mc
        · have ei : i = 60 := by omega
          subst ei
          have y1 : (60 : Int) < mc := by omega
          rw [show ((60 : Nat) : Int) = 60 from rfl]
          go_wp2_with fail
          go_meet
          case rel => exact HK
        · have y1 : ¬ (i : Int) < mc := by omega
          go_wp2_with fail
          go_meet
          case rel => exact HK
  case rest =>
    have HK : Hid (Kp w wc) := hcut
    clear hcut I0
    have cT := itold_any wc (HT.out.kp HK.out)
    go_wp2_with fail
    with_reducible refine cT.mono ?_
    rintro e w1 ⟨rfl, K1⟩
    have HK2 : Hid (Kp w w1) := HK.out.trans K1
    clear K1 cT
    go_wp2
    go_ret
    exact ⟨rfl, HK2.out⟩

end Go.Proofs.YtpjlmmiceiionaaDoor
