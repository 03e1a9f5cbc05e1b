/- IndexAlike. -/
import Derived.Test.YtpjlmmiceiionaaDoorCP
import Derived.Deep.DeepCutAuto
import Derived.Deep.RegionHeld3
namespace Go.Proofs.YtpjlmmiceiionaaDoor
open Go.RowKit Go.Maps
set_option maxRecDepth 10000

theorem putFr_over (F : Nat → Nat → Nat) (x : Nat) (f g : Nat → Nat) : putFr (putFr F x f) x g = putFr F x g := by
  funext y
  unfold putFr
  by_cases c : y = x
  · rw [if_pos c, if_pos c]
  · rw [if_neg c, if_neg c, if_neg c]
/-- What stands when the first f frames are made. -/
def IAt (w wr : World) (X : Nat → Prop) (p pm : Nat) (PG : Nat → Nat → Nat) (f : Nat) : Prop := TIx wr X p pm (2 * f) (FsA PG f) (SgA f) ∧ Kp w wr
set_option maxHeartbeats 32000000 in
theorem alike20_any (na0 : Option Addr) (m0 cap0 : Nat) (wf0 : Nat → Int) (na1 : Option Addr) (m1 cap1 : Nat) (wf1 : Nat → Int) (w : World) (hO0 : NSK .i64 w na0 m0 wf0) (hO1 : NSK .i64 w na1 m1 wf1) (T : TAB w) :
    Calls Tryd.prog 4 #[.slice na0 m0 cap0, .slice na1 m1 cap1] w fun e w' => e = .returned (.bool true) ∧ Kp w w' := by
  have c1 := imade_any w T
  clear T
  obtain ⟨kk, hkk⟩ : ∃ kk : Nat → Nat, ∀ f, kk f < 4 ∧ (f < m0 ∧ f < m1 → bits .and .i64 (wf0 f) 3 = (kk f : Int)) ∧ (¬ (f < m0 ∧ f < m1) → kk f = 0) := by
    refine ⟨fun f => if f < m0 ∧ f < m1 then (bits .and .i64 (wf0 f) 3).toNat else 0, fun f => ?_⟩
    obtain ⟨m, e1, e2⟩ := and_lim (wf0 f) 3 (by decide)
    rw [show ((3 : Nat) : Int) = 3 from rfl] at e1
    by_cases c : f < m0 ∧ f < m1
    · refine ⟨?_, fun _ => ?_, fun h => absurd c h⟩
      · show (if _ then _ else _) < _; rw [if_pos c, e1]; omega
      · show _ = ((if _ then _ else _ : Nat) : Int); rw [if_pos c, e1]; omega
    · exact ⟨by show (if _ then _ else _) < _; rw [if_neg c]; decide, fun h => absurd h c, fun _ => if_neg c⟩
  obtain ⟨vv, hvv⟩ : ∃ vv : Nat → Nat, ∀ f, vv f < 4 ∧ (f < m0 ∧ f < m1 → bits .and .i64 (wf1 f) 3 = (vv f : Int)) ∧ (¬ (f < m0 ∧ f < m1) → vv f = 0) := by
    refine ⟨fun f => if f < m0 ∧ f < m1 then (bits .and .i64 (wf1 f) 3).toNat else 0, fun f => ?_⟩
    obtain ⟨m, e1, e2⟩ := and_lim (wf1 f) 3 (by decide)
    rw [show ((3 : Nat) : Int) = 3 from rfl] at e1
    by_cases c : f < m0 ∧ f < m1
    · refine ⟨?_, fun _ => ?_, fun h => absurd c h⟩
      · show (if _ then _ else _) < _; rw [if_pos c, e1]; omega
      · show _ = ((if _ then _ else _ : Nat) : Int); rw [if_pos c, e1]; omega
    · exact ⟨by show (if _ then _ else _) < _; rw [if_neg c]; decide, fun h => absurd h c, fun _ => if_neg c⟩
  have HK : Hid ((∀ f, kk f < 4 ∧ (f < m0 ∧ f < m1 → bits .and .i64 (wf0 f) 3 = (kk f : Int)) ∧ (¬ (f < m0 ∧ f < m1) → kk f = 0)) ∧ (∀ f, vv f < 4 ∧ (f < m0 ∧ f < m1 → bits .and .i64 (wf1 f) 3 = (vv f : Int)) ∧ (¬ (f < m0 ∧ f < m1) → vv f = 0))) := ⟨hkk, hvv⟩
  obtain ⟨PG, hPG⟩ : ∃ PG : Nat → Nat → Nat, PG = fun f => pgF (kk f) (vv f) := ⟨_, rfl⟩
  have HP : Hid ((∀ f, PG f = putF (putF z0 64 8 (100 - vv f)) (64 + 32 * (kk f + 1)) 8 (vv f)) ∧ ∀ f, dgt (PG f) = (100, 0)) := ⟨fun f => by rw [hPG]; rfl, fun f => by rw [hPG]; exact dgt_pg _ (hkk f).1 _ (hvv f).1⟩
  clear hkk hvv hPG
  have HO : Hid (NSK .i64 w na0 m0 wf0 ∧ NSK .i64 w na1 m1 wf1) := ⟨hO0, hO1⟩
  clear hO0 hO1
  obtain ⟨X, hX⟩ : ∃ X : Nat → Prop, X = fun k => k < w.heap.size := ⟨_, rfl⟩
  have HX : Hid (∀ k, k < w.heap.size → X k) := fun k hk => by rw [hX]; exact hk
  rw [← hX] at c1
  clear hX
  go_enter Tryd.func4, Tryd.ntmps4
  go_wp2_with fail
  with_reducible refine c1.mono ?_
  rintro e w1 ⟨p, pm, rfl, t1, k1⟩
  have H1 : Hid (IAt w w1 X p pm PG 0) := ⟨by rw [FsA_0, SgA_0]; exact t1, k1⟩
  clear t1 k1 c1
  go_wp2_with fail
  go_loopg [8] 13 (fun gk v8 wr => ∃ f : Nat, v8 = .int .i64 (f : Int) ∧ f ≤ 12 ∧ 13 - f ≤ gk ∧ Hid (IAt w wr X p pm PG f))
  case atStart => exact ⟨0, rfl, by omega, by omega, H1⟩
  case round =>
    clear H1
    obtain ⟨f, rfl, hf, hgk, HI⟩ := hrel
    by_cases hlt : f < 12
    · have y1 : (f : Int) < 12 := by omega
      obtain ⟨a, ha⟩ : ∃ a, a = kk f := ⟨_, rfl⟩
      obtain ⟨v, hv⟩ : ∃ v, v = vv f := ⟨_, rfl⟩
      have y2 : a < 4 := by rw [ha]; exact (HK.out.1 f).1
      have y3 : v < 4 := by rw [hv]; exact (HK.out.2 f).1
      have HA : Hid (a = kk f ∧ v = vv f) := ⟨ha, hv⟩
      clear ha hv
      go_upto_region 8 with fail
      go_cut [41] (fun v41 wx => v41 = .bool (decide (f < m0 ∧ f < m1)) ∧ wx = wr)
      case first =>
        by_cases c0 : f < m0
        · have z1 : (f : Int) < m0 := by omega
          by_cases c1 : f < m1
          · have z2 : (f : Int) < m1 := by omega
            go_wp2_with fail
            go_meet
            exact ⟨by rw [decide_eq_true (⟨c0, c1⟩ : f < m0 ∧ f < m1)], rfl⟩
          · have z2 : ¬ (f : Int) < m1 := by omega
            go_wp2_with fail
            go_meet
            exact ⟨by rw [decide_eq_false (fun h => c1 h.2 : ¬ (f < m0 ∧ f < m1))], rfl⟩
        · have z1 : ¬ (f : Int) < m0 := by omega
          go_wp2_with fail
          go_meet
          exact ⟨by rw [decide_eq_false (fun h => c0 h.1 : ¬ (f < m0 ∧ f < m1))], rfl⟩
      case rest =>
      obtain ⟨rfl, rfl⟩ := hcut
      go_upto_if 41 with fail
      go_cut [9, 10] (fun v9 v10 wx => v9 = .int .i64 (a : Int) ∧ v10 = .int .i64 (v : Int) ∧ Hid (IAt w wx X p pm PG f))
      case first =>
        by_cases c : f < m0 ∧ f < m1
        · have z1 : (f : Int) < m0 := by omega
          have z2 : (f : Int) < m1 := by omega
          obtain ⟨⟨b0, o0, rfl, hb0, q0⟩, _⟩ := (HO.out.1.kp HI.out.2) f c.1
          obtain ⟨⟨b1, o1, rfl, hb1, q1⟩, _⟩ := (HO.out.2.kp HI.out.2) f c.2
          have e0 : bits .and .i64 (wf0 f) 3 = (a : Int) := by rw [HA.out.1]; exact (HK.out.1 f).2.1 c
          have e1 : bits .and .i64 (wf1 f) 3 = (v : Int) := by rw [HA.out.2]; exact (HK.out.2 f).2.1 c
          generalize wf0 f = x0 at q0 e0
          generalize wf1 f = x1 at q1 e1
          rw [decide_eq_true c]
          go_wp2_with fail
          go_region_held3 (fun w => w.cell? ⟨b0, o0 + f, none⟩ = some (.int .i64 x0) ∧ w.cell? ⟨b1, o1 + f, none⟩ = some (.int .i64 x1))
            (go_keep) (fail)
          all_goals
            go_wp2_with fail
            go_meet
            exact ⟨rfl, rfl, HI.out.1.kpl (Kp.refl _).drew, HI.out.2.trans (Kp.refl _).drew⟩
        · have ea : a = 0 := by rw [HA.out.1]; exact (HK.out.1 f).2.2 c
          have ev : v = 0 := by rw [HA.out.2]; exact (HK.out.2 f).2.2 c
          subst ea ev
          rw [decide_eq_false c]
          go_wp2_with fail
          go_meet
          exact ⟨rfl, rfl, HI⟩
      case rest =>
        clear HI
        obtain ⟨rfl, rfl, HI⟩ := hcut
        have A0 := TIx.write HI.out.1 (f * 4096 + 64) 8 (100 - v) (by omega) (chk_8 hlt 64 rfl (by decide)) (by omega) (by omega)
        rw [show (f * 4096 + 64) / 4096 = f by omega, show (f * 4096 + 64) % 4096 = 64 by omega, show ((8 : Nat) : Int) = 8 from rfl, show ((f * 4096 + 64 : Nat) : Int) = (f : Int) * 4096 + 64 by omega, show ((100 - v : Nat) : Int) = 100 - (v : Int) by omega, FsA_at] at A0
        have K1 : Hid (Kp w wc) := HI.out.2
        clear HI
        go_wp2_with fail
        with_reducible refine A0.mono ?_
        rintro e w2 ⟨rfl, t2, f2⟩
        have H2 : Hid (TIx w2 X p pm (2 * f + 1) (putFr (FsA PG f) f (putF z0 64 8 (100 - v))) (SgA f) ∧ Kp w w2) := ⟨t2, f2.up K1.out HX.out⟩
        clear A0 t2 f2 K1
        have A1 := TIx.write H2.out.1 (f * 4096 + (64 + 32 * (a + 1))) 8 v (by omega) (chk_8 hlt _ (by omega) (by omega)) (by omega) (by omega)
        rw [show (f * 4096 + (64 + 32 * (a + 1))) / 4096 = f by omega, show (f * 4096 + (64 + 32 * (a + 1))) % 4096 = 64 + 32 * (a + 1) by omega, show ((8 : Nat) : Int) = 8 from rfl, show ((f * 4096 + (64 + 32 * (a + 1)) : Nat) : Int) = (f : Int) * 4096 + 64 + 32 * ((a : Int) + 1) by omega, putFr_same, putFr_over] at A1
        rw [show putF (putF z0 64 8 (100 - v)) (64 + 32 * (a + 1)) 8 v = PG f by rw [HP.out.1, ← HA.out.1, ← HA.out.2], FsA_next] at A1
        go_wp2_with fail
        with_reducible refine A1.mono ?_
        rintro e w3 ⟨rfl, t3, f3⟩
        have H3 : Hid (TIx w3 X p pm (2 * f + 1 + 1) (FsA PG (f + 1)) (SgA f) ∧ Kp w w3) := ⟨t3, f3.up H2.out.2 HX.out⟩
        clear A1 t3 f3 H2
        have A2 := TIx.add H3.out.1 (f : Int)
        have hs : addA (SgA f) (f : Int) = 0 ∧ addS (SgA f) (FsA PG (f + 1)) (f : Int) = SgA (f + 1) := by
          have e1 : addA (SgA f) (f : Int) = 0 := by
            unfold addA
            rw [(hasF_iff 12 (f : Int)).2 (by omega), if_neg (by decide), Int.toNat_natCast, show SgA f f = none by unfold SgA; rw [if_neg (by omega)]]
            rfl
          refine ⟨e1, ?_⟩
          unfold addS
          rw [if_pos e1, Int.toNat_natCast, FsA_lt PG (Nat.lt_succ_self f), HP.out.2, SgA_next]
        rw [hs.1, hs.2] at A2
        clear hs
        go_wp2_with fail
        with_reducible refine A2.mono ?_
        rintro e w4 ⟨rfl, t4, f4⟩
        have H4 : Hid (IAt w w4 X p pm PG (f + 1)) := ⟨t4, f4.up H3.out.2 HX.out⟩
        clear A2 t4 f4 H3
        go_wp2_with fail
        go_roundg (13 - (f + 1))
        case measure => omega
        case rel => exact ⟨f + 1, by go_num, by omega, by omega, H4⟩
    · have y1 : ¬ (f : Int) < 12 := by omega
      have : f = 12 := by omega
      subst this
      obtain ⟨FF, hFF⟩ : ∃ FF, FF = FsA PG 12 := ⟨_, rfl⟩
      have HD : Hid (∀ f, f < 12 → dgt (FF f) = (100, 0)) := fun f hf => by rw [hFF, FsA_lt PG hf]; exact HP.out.2 f
      have H5 : Hid (TIx wr X p pm 24 FF (SgA 12) ∧ Kp w wr) := ⟨by rw [hFF]; exact HI.out.1, HI.out.2⟩
      clear hFF HI HP HK HO hf hgk
      go_wp2_with fail
      go_loopg [11] 13 (fun gk v11 wx => ∃ f : Nat, v11 = .int .i64 (f : Int) ∧ f ≤ 12 ∧ 13 - f ≤ gk ∧ Hid (TIx wx X p pm 24 FF (SgA 12) ∧ Kp w wx))
      case atStart => exact ⟨0, rfl, by omega, by omega, H5⟩
      case round =>
        clear H5
        obtain ⟨f, rfl, hf, hgk, HI⟩ := hrel
        by_cases hlt : f < 12
        · have z1 : (f : Int) < 12 := by omega
          have A0 := TIx.get_ok HI.out.1 f hlt
          go_wp2_with fail
          with_reducible refine A0.mono ?_
          rintro e w2 ⟨rfl, b2, t2, k2⟩
          obtain ⟨b, hb⟩ : ∃ b, b = wr.heap.size := ⟨_, rfl⟩
          rw [← hb] at b2 t2 ⊢
          have bl := b2.lt
          have H2 : Hid (TIx w2 (fun k => X k ∨ k = b) p pm 24 FF (SgA 12) ∧ Kp w w2 ∧ BS w2 b 0 4096 (FF f)) := ⟨t2.less (fun k hk => hk.imp id (by omega)), HI.out.2.trans k2, b2⟩
          clear A0 b2 t2 k2 bl hb HI
          obtain ⟨P, hP⟩ : ∃ P : Nat → Bool, P = fun k => decide (k ≠ f) && alike (FF k) (FF f) 4096 := ⟨_, rfl⟩
          have HPf : Hid (∀ k, P k = (decide (k ≠ f) && alike (FF k) (FF f) 4096)) := fun k => by rw [hP]
          have A1 := TIx.find (cap := 4096) H2.out.1 H2.out.2.2 (Nat.le_refl _) (f : Int)
          rw [fnd_1 (HD.out f hlt), ← hP] at A1
          obtain ⟨g1, i1, hg1⟩ : ∃ (g1 : Int) (i1 : Bool), g1 = (((wnt P 0).getD 0 : Nat) : Int) ∧ i1 = (wnt P 0).isSome := ⟨_, _, rfl, rfl⟩
          rw [← hg1.1, ← hg1.2] at A1
          have HG : Hid ((i1 = true ∧ g1 = wntI (wnt P 0) ∧ 0 ≤ wntI (wnt P 0)) ∨ (i1 = false ∧ wntI (wnt P 0) = -1)) := by
            obtain ⟨rfl, rfl⟩ := hg1
            cases wnt P 0 with
            | none => exact .inr ⟨rfl, rfl⟩
            | some x => exact .inl ⟨rfl, rfl, by show (0 : Int) ≤ (x : Int); omega⟩
          obtain ⟨h, hh1, hh2, hh3⟩ := fnd_2 hlt (HD.out f hlt)
          have HH : Hid (fndR (SgA 12) 12 FF (FF f) (-1) = some h ∧ alike (FF h) (FF f) 4096 = true) := ⟨hh1, hh3⟩
          clear hP hg1 hh1 hh3
          go_wp2_with fail
          with_reducible refine A1.mono ?_
          rintro e w3 ⟨rfl, t3, k3⟩
          have H3 : Hid (TIx w3 (fun k => X k ∨ k = b) p pm 24 FF (SgA 12) ∧ Kp w w3 ∧ BS w3 b 0 4096 (FF f)) := ⟨t3, H2.out.2.1.trans k3, H2.out.2.2.kp k3⟩
          clear A1 t3 k3 H2
          have A2 := TIx.find (cap := 4096) H3.out.1 H3.out.2.2 (Nat.le_refl _) (-1)
          rw [HH.out.1, Option.getD_some, Option.isSome_some] at A2
          go_wp2_with fail
          with_reducible refine A2.mono ?_
          rintro e w4 ⟨rfl, t4, k4⟩
          have H4 : Hid (TIx w4 X p pm 24 FF (SgA 12) ∧ Kp w w4) := ⟨t4.less (fun k hk => .inl hk), H3.out.2.1.trans k4⟩
          clear A2 t4 k4 H3
          go_wp2_with fail
          go_loopg [18, 19] 13 (fun gi v18 v19 wx => ∃ k : Nat, v18 = .int .i64 (wntI (wnt P k)) ∧ v19 = .int .i64 ((k : Int) - 1) ∧ k ≤ 12 ∧ k + 1 ≤ gi ∧ Hid (TIx wx X p pm 24 FF (SgA 12) ∧ Kp w wx))
          case atStart => exact ⟨12, rfl, rfl, by omega, by omega, H4⟩
          case round =>
            clear H4
            obtain ⟨k, rfl, rfl, hk, hgi, HI⟩ := hrel
            cases k with
            | zero =>
              have A3 := TIx.same HI.out.1 (h : Int) (f : Int)
              rw [show sameF 12 FF (h : Int) (f : Int) = true by unfold sameF; rw [(hasF_iff 12 _).2 (by omega), (hasF_iff 12 _).2 (by omega), Int.toNat_natCast, Int.toNat_natCast, HH.out.2]; rfl] at A3
              rcases HG.out with ⟨q1, q2, q3⟩ | ⟨q1, q2⟩
              · subst q1 q2
                generalize wntI (wnt P 0) = wt at *
                go_wp2_with fail
                with_reducible refine A3.mono ?_
                rintro e w5 ⟨rfl, t5, k5⟩
                have H5 : Hid (TIx w5 X p pm 24 FF (SgA 12) ∧ Kp w w5) := ⟨t5, HI.out.2.trans k5⟩
                clear A3 t5 k5 HI
                go_wp2_with fail
                go_roundg (13 - (f + 1))
                case measure => omega
                case rel => exact ⟨f + 1, by go_num, by omega, by omega, H5⟩
              · subst q1
                rw [q2]
                go_wp2_with fail
                with_reducible refine A3.mono ?_
                rintro e w5 ⟨rfl, t5, k5⟩
                have H5 : Hid (TIx w5 X p pm 24 FF (SgA 12) ∧ Kp w w5) := ⟨t5, HI.out.2.trans k5⟩
                clear A3 t5 k5 HI
                go_wp2_with fail
                go_roundg (13 - (f + 1))
                case measure => omega
                case rel => exact ⟨f + 1, by go_num, by omega, by omega, H5⟩
            | succ j =>
              rw [show ((j + 1 : Nat) : Int) - 1 = (j : Int) by omega]
              have z2 : (j : Int) < 12 := by omega
              have HW := wnt_at P (show j < 12 by omega)
              rw [HPf.out j] at HW
              by_cases c : j = f
              · subst c
                rw [decide_eq_false (fun q => q rfl), Bool.false_and, if_neg (by decide)] at HW
                rw [← HW]
                obtain ⟨wt, hwt⟩ : ∃ wt, wntI (wnt P j) = wt := ⟨_, rfl⟩
                have HJ : Hid (wntI (wnt P j) = wt) := hwt
                rw [hwt]
                clear HW hwt
                go_wp2_with fail
                go_roundg (j + 1)
                case measure => omega
                case rel => exact ⟨j, by rw [HJ.out], rfl, by omega, by omega, HI⟩
              · have z3 : ¬ (j : Int) = (f : Int) := by omega
                have A3 := TIx.same HI.out.1 (j : Int) (f : Int)
                rw [show sameF 12 FF (j : Int) (f : Int) = alike (FF j) (FF f) 4096 by unfold sameF; rw [(hasF_iff 12 _).2 (by omega), (hasF_iff 12 _).2 (by omega), Int.toNat_natCast, Int.toNat_natCast, Bool.true_and, Bool.true_and]] at A3
                rw [decide_eq_true c, Bool.true_and] at HW
                obtain ⟨wt, hwt⟩ : ∃ wt, wntI (wnt P (j + 1)) = wt := ⟨_, rfl⟩
                obtain ⟨q, hq⟩ : ∃ q, alike (FF j) (FF f) 4096 = q := ⟨_, rfl⟩
                rw [hq] at A3 HW
                rw [hwt]
                have HJ : Hid (wntI (wnt P j) = if q = true then (j : Int) else wt) := by
                  show _ = _
                  rw [HW, ← hwt]
                  cases q <;> rfl
                clear HW c hwt hq
                go_wp2_with fail
                with_reducible refine A3.mono ?_
                rintro e w5 ⟨rfl, t5, k5⟩
                have H5 : Hid (TIx w5 X p pm 24 FF (SgA 12) ∧ Kp w w5) := ⟨t5, HI.out.2.trans k5⟩
                clear A3 t5 k5 HI
                cases q with
                | true =>
                  go_wp2_with fail
                  go_roundg (j + 1)
                  case measure => omega
                  case rel => exact ⟨j, by rw [HJ.out]; rfl, rfl, by omega, by omega, H5⟩
                | false =>
                  go_wp2_with fail
                  go_roundg (j + 1)
                  case measure => omega
                  case rel => exact ⟨j, by rw [HJ.out, if_neg (by decide)], rfl, by omega, by omega, H5⟩
        · have z1 : ¬ (f : Int) < 12 := by omega
          have : f = 12 := by omega
          subst this
          clear hf hgk
          have A7 := TIx.alike HI.out.1
          go_wp2_with fail
          with_reducible refine A7.mono ?_
          rintro e wa ⟨v, L, D, rfl, q1, q2, _, ta, ka⟩
          obtain ⟨e, rfl, he⟩ := SgA_alike q1 q2
          obtain ⟨na, cap, rfl, _, hna, hcell⟩ := q1.ax.form LTge_ok
          obtain ⟨g, rfl, hg, _, hc⟩ := hcell 0 e rfl
          have c0 : wa.cell? ⟨g, 0, none⟩ = some (geV e) := by
            have := hc 0 (geV e) rfl
            simpa [LTge] using this
          obtain ⟨na', cap', he2, _⟩ := he.form LTfr_ok
          rw [he2] at c0
          have A8 := itold_any wa ta.tab
          have H6 : Hid (Kp w wa ∧ g < wa.heap.size) := ⟨HI.out.2.trans ka, hg⟩
          clear A7 ta ka q1 q2 he hna hcell hc hg he2 HI
          go_wp2_with fail
          with_reducible refine A8.mono ?_
          rintro e wb ⟨rfl, kb⟩
          have c1 : wb.cell? ⟨g, 0, none⟩ = some (.slice na' (List.range 12).length cap') := (kb.cell (p := ⟨g, 0, none⟩) H6.out.2).trans c0
          rw [show (List.range 12).length = 12 from rfl] at c1
          have H7 : Hid (Kp w wb) := H6.out.1.trans kb
          clear c0 A8 kb H6
          go_wp2_with fail
          go_ret
          exact ⟨rfl, H7.out⟩

end Go.Proofs.YtpjlmmiceiionaaDoor
