/- BuddyBack: the walk. -/
import Derived.Test.YtlclpnaaaiimaaaDoorUK2
import Derived.Deep.DeepCutAuto
import Derived.Deep.CutBlock
namespace Go.Proofs.YtlclpnaaaiimaaaDoor
open Go.RowKit

/-- Between the steps of BuddyBack. -/
structure BI (W : World) (B b1 : Nat) (U : Nat → Prop) (w : World) (p lo hi : Nat) (va vt : Value) (Q : List (Nat × Nat)) (G F : Nat → Bool) : Prop where
  bu : BU W B U w p lo hi F
  tg : TG lo hi Q G F
  was : RL w B va (rl (ivl lo hi) hi lo)
  wl : ∀ g, va.ownBlock = some g → g < b1
  tk : RL w b1 vt Q
  hb : B ≤ b1
section
variable {W w w' : World} {B b1 : Nat} {U : Nat → Prop} {p lo hi : Nat} {va vt : Value} {Q : List (Nat × Nat)} {G G' F F' : Nat → Bool}
theorem BI.kps (h : BI W B b1 U w p lo hi va vt Q G F) (k : Kp w w') : BI W B b1 U w' p lo hi va vt Q G F := ⟨h.bu.kps k, h.tg, h.was.kp k, h.wl, h.tk.kp k, h.hb⟩
theorem BI.next (h : BI W B b1 U w p lo hi va vt Q G F) (b : BF w' U p lo hi F') (k : Fr U w w') (t : TG lo hi Q G' F') : BI W B b1 U w' p lo hi va vt Q G' F' :=
  ⟨h.bu.next b k, t, h.was.away k (fun i hi => (h.bu.new i hi).2), h.wl, h.tk.away k (fun i hi => Nat.lt_of_lt_of_le (h.bu.new i hi).2 h.hb), h.hb⟩
theorem BI.snoc {w4 : World} {F1 : Nat → Bool} (h : BI W B b1 U w p lo hi va vt Q (fun _ => false) F) (hb1 : b1 ≤ w.heap.size) (b4 : BF w4 U p lo hi F1) (k4 : Fr U w w4) (f o : Nat) (hl : Q.length ≤ 2000000) (t : TG lo hi (Q ++ [(f, o)]) (fun _ => false) F1) :
    ∃ v' w', (Builtin.append_ #[31, 31] 31 #[vt, .slice (some ⟨w4.heap.size, 0, none⟩) 1 1]).run Tryd.prog (w4.alloc (.cells #[.int .i64 (f : Int), .int .i64 (o : Int)] 34)) = .ok v' w' ∧ BI W B b1 U w' p lo hi va v' (Q ++ [(f, o)]) (fun _ => false) F1 ∧ b1 ≤ w'.heap.size := by
  have u4 := h.bu.next b4 k4
  have s4 := h.was.away k4 (fun i hi => (h.bu.new i hi).2)
  have t4 := h.tk.away k4 (fun i hi => Nat.lt_of_lt_of_le (h.bu.new i hi).2 h.hb)
  obtain ⟨v', w', r1, r2, r3, r4⟩ := t4.snoc (Nat.le_trans hb1 k4.size) f o hl
  have hB := h.bu.b1
  refine ⟨v', w', r1, ⟨u4.frs r4 (fun i hi => Nat.le_trans h.hb (t4.up i hi).1) (by omega), t, ⟨s4.ol.fr r4 (fun g hg hs => by have := h.wl g hg; have := (t4.up g hs).1; omega), fun g hg => ⟨(s4.up g hg).1, Nat.lt_of_lt_of_le (s4.up g hg).2 r4.size⟩⟩, h.wl, r2, h.hb⟩, Nat.le_trans (Nat.le_trans hb1 k4.size) r4.size⟩
theorem RL.cells {na : Option Addr} {b m cap i : Nat} {L : List (Nat × Nat)} {x : Nat × Nat} (h : RL w b (.slice na m cap) L) (hx : L[i]? = some x) : ∃ g, na = some ⟨g, 0, none⟩ ∧ g < w.heap.size ∧ w.cell? ⟨g, i * 2, none⟩ = some (.int .i64 (x.1 : Int)) ∧ w.cell? ⟨g, i * 2 + 1, none⟩ = some (.int .i64 (x.2 : Int)) := by
  obtain ⟨na', cap', e, _, hv⟩ := h.form
  simp only [Value.slice.injEq] at e
  obtain ⟨rfl, _, _⟩ := e
  obtain ⟨g, q1, q2, _, q3, q4⟩ := hv i x hx
  exact ⟨g, q1, q2, q3, q4⟩
end
set_option maxHeartbeats 16000000 in
set_option maxRecDepth 1000000 in
theorem back_walk (a0 a1 a3 a4 : Int) (lo m r n : Nat) (nc : Option Addr) (mc capc : Nat) (fc : Nat → Int) (w : World) (C : NSK .i64 w nc mc fc) (T : TAB w)
    (e1 : bits .and .i64 a0 4095 = (lo : Int)) (e2 : bits .and .i64 a1 2047 = (m : Int)) (e3 : (m : Int).tmod 1200 = (r : Int)) (e4 : 1 + (r : Int) = (n : Int)) (h1 : lo ≤ 4095) (h2 : 1 ≤ n) (h3 : n ≤ 1200) :
    Calls Tryd.prog 5 #[.int .i64 a0, .int .i64 a1, .slice nc mc capc, .int .i64 a3, .int .i64 a4] w fun e w' => e = .returned (.bool true) ∧ Kp w w' := by
  have k1 := new_ok lo n w T (by omega) (by omega)
  have CC : Aside (NSK .i64 w nc mc fc) := C
  have HT : Hid (TAB w) := T
  have z1 : (n : Int) ≤ 1200 := by omega
  have z2 : (1 : Int) ≤ n := by omega
  have z3 : (lo : Int) ≤ 4095 := by omega
  clear C T
  go_enter Tryd.func5, Tryd.ntmps5
  go_wp2_with fail
  with_reducible refine k1.mono ?_
  rintro e w1 ⟨⟨p, U, rfl, B1, N1⟩, K1⟩
  clear k1 e1 e2 e3 e4
  obtain ⟨B, hB⟩ : ∃ B, B = w1.heap.size := ⟨_, rfl⟩
  have I0 : BU w B U w1 p lo (lo + n) (ivl lo (lo + n)) := ⟨B1, K1, fun k hk => ⟨N1 k hk, by rw [hB]; exact B1.own k hk⟩, by rw [hB]; exact Nat.le_refl _⟩
  have k2 := runs_any B1
  rw [← hB] at k2
  have HI0 : Hid (BU w B U w1 p lo (lo + n) (ivl lo (lo + n))) := I0
  clear B1 N1 K1 hB I0
  go_wp2_with fail
  with_reducible refine k2.mono ?_
  rintro e w2 ⟨⟨va, rfl, R2⟩, K2⟩
  obtain ⟨b1, hb1⟩ : ∃ b1, b1 = w2.heap.size := ⟨_, rfl⟩
  have I1 : Hid (BI w B b1 U w2 p lo (lo + n) va (.slice none 0 0) [] (fun _ => false) (ivl lo (lo + n)) ∧ b1 ≤ w2.heap.size) := ⟨⟨HI0.out.kps K2, TG.start _ _, R2, fun g hg => by rw [hb1]; exact (R2.up g hg).2, RL.nil _ _, by rw [hb1]; exact Nat.le_trans HI0.out.bs K2.size⟩, by rw [hb1]; exact Nat.le_refl _⟩
  clear HI0 k2 R2 K2 hb1
  go_upto_block 0 with fail
  go_cut [14] (fun v14 wx => ∃ (Q : List (Nat × Nat)) (F : Nat → Bool), Q.length ≤ 40 ∧ Hid (BI w B b1 U wx p lo (lo + n) va v14 Q (fun _ => false) F))
  case first =>
    go_wp2_with fail
    go_loopg [14, 15] 41 (fun g v14 v15 wr => ∃ (i : Nat) (Q : List (Nat × Nat)) (F : Nat → Bool), v15 = .int .i64 (i : Int) ∧ i ≤ 40 ∧ 41 - i ≤ g ∧ Q.length ≤ i ∧ Hid (BI w B b1 U wr p lo (lo + n) va v14 Q (fun _ => false) F ∧ b1 ≤ wr.heap.size))
    case atStart => exact ⟨0, [], _, rfl, by omega, by omega, by simp, I1⟩
    case round =>
      clear I1
      obtain ⟨i, Q, F, rfl, hi, hg, hQ, HI⟩ := hrel
      by_cases hlt : i < mc ∧ i < 40
      · have y1 : (i : Int) < mc := by omega
        have y2 : (i : Int) < 40 := by omega
        obtain ⟨⟨cb, co, rfl, d1, d2⟩, d3⟩ := CC.out i hlt.1
        have cc := (HI.out.1.bu.kp.cell (p := ⟨cb, co + i, none⟩) d1).trans d2
        obtain ⟨t, o, g1, g2, g3, g4, g5⟩ := place_of (fc i) 10 (by omega)
        generalize fc i = ci at *
        rw [show ((10 : Nat) : Int) = 10 from rfl] at g1 g2 g3 g4
        have y3 : (o : Int) < 10 := by omega
        clear d1 d2 d3
        have BFo := HI.out.1.bu.bf
        rcases tk_or F o with ⟨o', i', t⟩ | t
        · obtain ⟨j, ej, hA, r1, r2, r3⟩ := t.place BFo
          have k3 := take_ok BFo o o' i' t
          rw [r3, ej] at k3
          have hsf : ∀ k, subF F o j k = (F k && !decide (j * 2 ^ o ≤ k ∧ k < j * 2 ^ o + 2 ^ o)) := fun k => by
            unfold subF
            congr 2
            exact decide_eq_decide.2 (blk_iff k o j)
          have HTG : Hid (TG lo (lo + n) (Q ++ [(j * 2 ^ o, o)]) (fun _ => false) (subF F o j)) := HI.out.1.tg.take (by omega) (Nat.mul_mod_left _ _) r1 r2 (fun k a c => hA k ((blk_iff ..).2 ⟨a, c⟩)) hsf
          have hfl : j * 2 ^ o ≤ 1048576 := by
            have := Nat.two_pow_pos o
            generalize j * 2 ^ o = q at *
            generalize 2 ^ o = s at *
            omega
          clear BFo t hA hsf r1 r2 r3 ej
          generalize subF F o j = F1 at *
          generalize j * 2 ^ o = f at *
          go_wp2_with fail
          with_reducible refine k3.mono ?_
          rintro e w4 ⟨rfl, B4, F4⟩
          obtain ⟨v', w5, q1, q2, q3⟩ := HI.out.1.snoc HI.out.2 B4 F4 f o (by omega) HTG.out
          have HI2 : Hid (BI w B b1 U w5 p lo (lo + n) va v' (Q ++ [(f, o)]) (fun _ => false) F1 ∧ b1 ≤ w5.heap.size) := ⟨q2, q3⟩
          clear HI B4 F4 k3 q2 q3 HTG cc
          repeat' (first | ((with_reducible refine wp_append_of q1 (.tmp 71) (.tmp 75) ?_ ?_ ?_ ?_ ?_); rfl; rfl; rfl; rfl) | go_values | go_skip | go_guarded | go_step | go_upon | go_back | (simp only []) | (go_values <;> (try go_simp)) | (go_ite <;> go_prune <;> (try go_simp)))
          go_roundg (41 - (i + 1))
          case measure => omega
          case rel => exact ⟨i + 1, _, F1, by go_num, by omega, by omega, by simp; omega, HI2⟩
        · have k3 := take_no BFo o (by omega) t
          clear BFo t
          go_wp2_with fail
          with_reducible refine k3.mono ?_
          rintro e w' ⟨rfl, rfl⟩
          clear k3
          go_wp2
          go_roundg (41 - (i + 1))
          case measure => omega
          case rel => exact ⟨i + 1, Q, F, by go_num, by omega, by omega, by omega, HI⟩
      · have NLT : Hid (¬ (i < mc ∧ i < 40)) := hlt
        have HI2 : Hid (BI w B b1 U wr p lo (lo + n) va u14 Q (fun _ => false) F) := HI.out.1
        clear hlt HI
        by_cases hlt : (i : Int) < mc
        · have y2 : ¬ (i : Int) < 40 := by have := NLT.out; omega
          go_wp2_with fail
          go_meet
          case rel => exact ⟨Q, F, by omega, HI2⟩
        · go_wp2_with fail
          go_meet
          case rel => exact ⟨Q, F, by omega, HI2⟩
  case rest =>
    obtain ⟨Q, F0, hQ, HI⟩ := hcut
    obtain ⟨na, cap, rfl, l1, _⟩ := HI.out.tk.form
    obtain ⟨c, c1, c2⟩ := and_lim a3 31 (by omega)
    have c1' : bits .and .i64 a3 31 = (c : Int) := c1
    generalize hLn : Q.length = ql at *
    have HLN : Hid (Q.length = ql) := hLn
    have x1 : (ql : Int) ≤ 40 := by omega
    have x2 : (ql : Int) ≤ cap := by omega
    have x3 : (c : Int) ≤ 31 := by omega
    have HI1 : Hid (BI w B b1 U wc p lo (lo + n) va (.slice na ql cap) Q (giv ql c 0) F0) := HI.out
    clear c1 hLn I1 CC HI
    go_upto_block 2 with fail
    go_cut [] (fun wx => ∃ F : Nat → Bool, Hid (BI w B b1 U wx p lo (lo + n) va (.slice na ql cap) Q (giv ql c ql) F))
    case first =>
      go_wp2_with fail
      go_loopg [19] (ql + 1) (fun g v19 wq => ∃ (i : Nat) (F : Nat → Bool), v19 = .int .i64 (i : Int) ∧ i ≤ ql ∧ ql + 1 - i ≤ g ∧ Hid (BI w B b1 U wq p lo (lo + n) va (.slice na ql cap) Q (giv ql c i) F))
      case atStart => exact ⟨0, F0, rfl, by omega, by omega, HI1⟩
      case round =>
        clear HI1
        obtain ⟨i, F, rfl, hi, hg, HI⟩ := hrel
        by_cases hlt : i < ql
        · have y1 : (i : Int) < ql := by omega
          have y0 : ¬ (ql : Int) = 0 := by omega
          have yn : 0 < ql := by omega
          obtain ⟨k, hk⟩ : ∃ k, k = kk ql c i := ⟨_, rfl⟩
          have hkl : k < ql := by rw [hk]; exact kk_lt yn
          have y2 : (k : Int) < ql := by omega
          obtain ⟨k1, hk1⟩ : ∃ k1 : Nat, k1 = (i * 7 + c) % ql := ⟨_, rfl⟩
          have g1 : ((i : Int) * 7 + c).tmod (ql : Int) = (k1 : Int) := by
            rw [Int.tmod_eq_emod_of_nonneg (by omega), hk1, show (i : Int) * 7 + c = ((i * 7 + c : Nat) : Int) by omega, ← Int.natCast_emod]
          have g1e : ((i : Int) * 7 + c) % (ql : Int) = (k1 : Int) := by rw [← Int.tmod_eq_emod_of_nonneg (by omega)]; exact g1
          have hkf : i * 7 + c ≤ 311 := by omega
          have hk1l : k1 < ql := by rw [hk1]; exact Nat.mod_lt _ yn
          have y3 : (k1 : Int) < ql := by omega
          have HK : Hid (k = kk ql c i ∧ k < ql ∧ k1 = (i * 7 + c) % ql) := ⟨hk, hkl, hk1⟩
          clear hk hk1
          go_upto_if 94 with fail
          go_cut [20] (fun v20 wx => v20 = .int .i64 (k : Int) ∧ wx = wr)
          case first =>
            clear HI
            by_cases h7 : ql % 7 = 0
            · have g2 : (ql : Int) % 7 = 0 := by omega
              have g3 : ((i : Int) + c) % (ql : Int) = (k : Int) := by
                rw [HK.out.1, show (i : Int) + c = ((i + c : Nat) : Int) by omega, ← Int.natCast_emod]
                unfold kk
                rw [if_pos h7]
              have HG3 : Hid (((i : Int) + c) % (ql : Int) = (k : Int)) := g3
              clear h7
              go_wp2_with fail
              go_meet
              case rel => exact ⟨by first | rfl | rw [HG3.out], rfl⟩
            · obtain ⟨z, hz⟩ : ∃ z : Nat, z = ql % 7 := ⟨_, rfl⟩
              have g2 : (ql : Int) % 7 = (z : Int) := by omega
              have g4 : ((z : Int) == 0) = false := by
                have : ¬ (z : Int) = 0 := by omega
                simpa using this
              have ek : k1 = k := by rw [HK.out.1, HK.out.2.2]; unfold kk; rw [if_neg h7]
              clear h7 hz
              go_wp2_with fail
              go_meet
              case rel => exact ⟨by rw [ek], rfl⟩
          case rest =>
            obtain ⟨rfl, hwc⟩ := hcut
            subst hwc
            obtain ⟨x, hx⟩ : ∃ x, Q[k]? = some x := ⟨Q[k]'(by have := HLN.out; have := HK.out.2.1; omega), List.getElem?_eq_getElem (by have := HLN.out; have := HK.out.2.1; omega)⟩
            obtain ⟨gb, rfl, lg, q1, q2⟩ := HI.out.tk.cells hx
            have hgd : Q.getD k (0, 0) = x := by simp [List.getD, hx]
            obtain ⟨f, o⟩ := x
            have hrun := HI.out.tg.run k (by rw [HLN.out]; exact HK.out.2.1)
            rw [hgd] at hrun
            obtain ⟨t1, t2, t3, t4⟩ := hrun
            have cf : wc.cell? ⟨gb, k * 2, none⟩ = some (.int .i64 (f : Int)) := q1
            have cx : wc.cell? ⟨gb, k * 2 + 1, none⟩ = some (.int .i64 (o : Int)) := q2
            have HR : Hid (Q.getD k (0, 0) = (f, o) ∧ o ≤ 9 ∧ f % 2 ^ o = 0 ∧ lo ≤ f ∧ f + 2 ^ o ≤ lo + n) := ⟨hgd, t1, t2, t3, t4⟩
            have y5 : (o : Int) ≤ 9 := by have : o ≤ 9 := t1; omega
            have y6 : (f : Int) ≤ 5295 := by
              have hp := Nat.two_pow_pos o
              have : f + 2 ^ o ≤ lo + n := t4
              generalize 2 ^ o = s at *
              omega
            have HD2 : Aside (∀ q, Kp wc (wc.drewN q)) := fun q => (Kp.refl wc).drewN q
            clear q1 q2 hgd hx t1 t2 t3 t4 lg g1 g1e
            go_wp2_with fail
            go_quiet (fail)
            rename_i nq
            have I5 := HI.out.kps (HD2.out nq)
            obtain ⟨z, hz, hz2⟩ := and_lim (i : Int) 31 (by omega)
            have hz' : bits .and .i64 (i : Int) 31 = (z : Int) := hz
            obtain ⟨bb, hbb, hbb2⟩ := and_lim (a4 / 2 ^ z) 1 (by omega)
            have hbb' : bits .and .i64 (a4 / 2 ^ z) 1 = (bb : Int) := hbb
            obtain ⟨t3, ht3, ht32⟩ := and_lim (a4 / 8) 3 (by omega)
            have ht3' : bits .and .i64 (a4 / 8) 3 = (t3 : Int) := ht3
            have HI5 : Hid (BI w B b1 U (wc.drewN nq) p lo (lo + n) va (.slice (some ⟨gb, 0, none⟩) ql cap) Q (giv ql c i) F) := I5
            have x4 : (z : Int) ≤ 31 := by omega
            have x5 : (t3 : Int) ≤ 3 := by omega
            clear hz hbb ht3 HI I5 cf cx
            go_upto_if 118 with fail
            go_cut [23] (fun v23 wx => ∃ d : Nat, v23 = .int .i64 (d : Int) ∧ d ≤ o ∧ wx = wc.drewN nq)
            case first =>
              clear HI5
              by_cases hb1 : bb = 1
              · subst hb1
                by_cases ho : (1 : Int) + t3 < o
                · go_wp2_with fail
                  go_meet
                  case rel => exact ⟨1 + t3, by go_num, by omega, rfl⟩
                · go_wp2_with fail
                  go_meet
                  case rel => exact ⟨o, rfl, by omega, rfl⟩
              · have hb0 : bb = 0 := by omega
                subst hb0
                go_wp2_with fail
                go_meet
                case rel => exact ⟨0, rfl, by omega, rfl⟩
            case rest =>
              obtain ⟨d, rfl, hd, hwd⟩ := hcut
              subst hwd
              obtain ⟨hgd, t1, t2, t3, t4⟩ := HR.out
              obtain ⟨e, he⟩ : ∃ e : Nat, e = o - d := ⟨_, rfl⟩
              have hpo : 2 ^ o = 2 ^ d * 2 ^ e := by rw [← Nat.pow_add]; congr 1; omega
              have hq2 : f % 2 ^ e = 0 := by
                have hd1 : 2 ^ e ∣ 2 ^ o := ⟨2 ^ d, by rw [hpo, Nat.mul_comm]⟩
                exact Nat.mod_eq_zero_of_dvd (Nat.dvd_trans hd1 (Nat.dvd_of_mod_eq_zero t2))
              have hoff := HI5.out.tg.off (a := k) (by rw [HLN.out]; exact HK.out.2.1) (by rw [HK.out.1]; exact giv_new hQ c2 hlt)
              rw [hgd] at hoff
              have hpd : (2 : Int) ^ d = ((2 ^ d : Nat) : Int) := by push_cast; rfl
              have hpe : (2 : Int) ^ e = ((2 ^ e : Nat) : Int) := by push_cast; rfl
              obtain ⟨P, hP⟩ : ∃ P : Nat, P = 2 ^ d := ⟨_, rfl⟩
              obtain ⟨q, hq⟩ : ∃ q : Nat, q = 2 ^ e := ⟨_, rfl⟩
              have hPp : 0 < P := by rw [hP]; exact Nat.two_pow_pos d
              have hqp : 0 < q := by rw [hq]; exact Nat.two_pow_pos e
              obtain ⟨s, hs⟩ : ∃ s : Nat, s = P * q := ⟨_, rfl⟩
              have hso : 2 ^ o = s := by rw [hpo, hs, hP, hq]
              have hs10 : (2 ^ o : Nat) ≤ 2 ^ 9 := Nat.pow_le_pow_right (by omega) (by omega)
              rw [hso] at t4 hs10
              rw [← hP] at hpd
              rw [← hq] at hpe hq2
              have hPs : P ≤ s := by rw [hs]; exact Nat.le_mul_of_pos_right _ hqp
              have hqs : q ≤ s := by rw [hs]; exact Nat.le_mul_of_pos_left _ hPp
              have HF : Hid ((∀ k', f ≤ k' → k' < f + s → F k' = false) ∧ (∀ k', inB (Q.getD k (0, 0)) k' = decide (f ≤ k' ∧ k' < f + s)) ∧ s = P * q ∧ q = 2 ^ e ∧ f % q = 0 ∧ e ≤ 9 ∧ lo ≤ f ∧ f + s ≤ lo + n) := ⟨fun k' a b => hoff k' ((inB_iff _ _).2 ⟨a, by rw [hso]; exact b⟩), fun k' => by rw [hgd]; unfold inB; rw [hso], hs, hq, hq2, by omega, t3, t4⟩
              obtain ⟨tt, htt, htt2⟩ := and_lim a3 32 (by omega)
              have htt' : bits .and .i64 a3 32 = (tt : Int) := htt
              have ed : (o : Int) - d = (e : Int) := by omega
              have x6 : (e : Int) ≤ 9 := by omega
              have x7 : (P : Int) ≤ 512 := by omega
              have x8 : (q : Int) ≤ 512 := by omega
              have x9 : (d : Int) ≤ 9 := by omega
              have HW : Hid (BI w B b1 U (wc.drewN nq) p lo (lo + n) va (.slice (some ⟨gb, 0, none⟩) ql cap) Q (giv ql c i) F) := HI5
              have HPD : Hid ((2 : Int) ^ d = (P : Int)) := hpd
              have HPE : Hid ((2 : Int) ^ e = (q : Int)) := hpe
              have HSZ : Hid (P ≤ s ∧ q ≤ s ∧ s ≤ 512 ∧ 0 < P ∧ 0 < q) := ⟨hPs, hqs, hs10, hPp, hqp⟩
              clear HI5 HR hgd t1 t2 t3 t4 he hpo hq2 hoff hpd hpe hP hq hs hso hs10 hPs hqs htt hPp hqp
              generalize wc.drewN nq = w5 at *
              by_cases ht0 : tt = 0
              · have h0' : bits .and .i64 a3 32 = 0 := by rw [htt', ht0]; rfl
                clear htt' ht0 htt2
                go_wp2_with fail
                go_loopg [24] (P + 1) (fun g v24 wq => ∃ (j jq : Nat) (F' : Nat → Bool), v24 = .int .i64 (j : Int) ∧ j ≤ P ∧ P + 1 - j ≤ g ∧ Hid (jq = j * q ∧ BU w B U wq p lo (lo + n) F' ∧ RL wq B va (rl (ivl lo (lo + n)) (lo + n) lo) ∧ RL wq b1 (.slice (some ⟨gb, 0, none⟩) ql cap) Q ∧ ∀ k', F' k' = (F k' || decide (f ≤ k' ∧ k' < f + jq))))
                case atStart => exact ⟨0, 0, F, rfl, by omega, by omega, by simp, HW.out.bu, HW.out.was, HW.out.tk, fun k' => by rw [decide_eq_false (by omega), Bool.or_false]⟩
                case round =>
                  obtain ⟨j, jq, F', rfl, hj, hgj, HJ⟩ := hrel
                  by_cases hjp : j < P
                  · have v1 : (j : Int) < P := by omega
                    have hsz := HSZ.out
                    have hjs : (j + 1) * q ≤ s := by rw [HF.out.2.2.1]; exact Nat.mul_le_mul_right _ (by omega)
                    rw [Nat.add_mul, Nat.one_mul] at hjs
                    obtain ⟨xq, hxq⟩ : ∃ xq : Nat, xq = j * q := ⟨_, rfl⟩
                    have v2 : (j : Int) * (q : Int) = (xq : Int) := by rw [hxq]; push_cast; rfl
                    have hje : jq = xq := by rw [HJ.out.1, hxq]
                    have hjl : jq + q ≤ s := by have := HJ.out.1; omega
                    have hym : (f + xq) % q = 0 := by rw [hxq, Nat.add_mul_mod_self_right]; exact HF.out.2.2.2.2.1
                    have hxs : xq + q ≤ s := by omega
                    obtain ⟨p1, p2⟩ := give_piece (lo := lo) (hi := lo + n) (y := f + xq) (e := e) (q := q) (F := F') HF.out.2.2.2.2.2.1 HF.out.2.2.2.1 hym (by have := HF.out.2.2.2.2.2.2.1; omega) (by have := HF.out.2.2.2.2.2.2.2; omega) (fun k' a b => by
                      rw [HJ.out.2.2.2.2 k', HF.out.1 k' (by omega) (by omega), decide_eq_false (by omega)]; rfl)
                    have k4 := give_any HJ.out.2.1.bf ((f + xq : Nat) : Int) (e : Int)
                    rw [p1] at k4
                    have HP2 : Hid (∀ k', gvF lo (lo + n) F' ((f + xq : Nat) : Int) (e : Int) k' = (F' k' || decide (f + xq ≤ k' ∧ k' < f + xq + q))) := p2
                    generalize gvF lo (lo + n) F' ((f + xq : Nat) : Int) (e : Int) = F2 at *
                    rw [show ((f + xq : Nat) : Int) = (f : Int) + xq by omega] at k4
                    have v5 : (xq : Int) ≤ 512 := by omega
                    have HN : Hid (jq + q = (j + 1) * q ∧ (xq = jq ∨ xq + jq + q = s) ∧ jq + q ≤ s ∧ xq + q ≤ s) := ⟨by rw [Nat.add_mul, Nat.one_mul, HJ.out.1], by omega, hjl, hxs⟩
                    have HE2 : Hid (jq = xq) := by first | exact hje | exact hje.symm
                    clear p1 p2 hym hjs hjl hxs hje hsz hxq
                    have b1' := HPD.out
                    have b2' := HPE.out
                    go_wp2_with fail
                    with_reducible refine k4.mono ?_
                    rintro e0 w6 ⟨rfl, B6, F6⟩
                    have HJ2 : Hid (jq + q = (j + 1) * q ∧ BU w B U w6 p lo (lo + n) F2 ∧ RL w6 B va (rl (ivl lo (lo + n)) (lo + n) lo) ∧ RL w6 b1 (.slice (some ⟨gb, 0, none⟩) ql cap) Q ∧ ∀ k', F2 k' = (F k' || decide (f ≤ k' ∧ k' < f + (jq + q)))) :=
                      ⟨HN.out.1, HJ.out.2.1.next B6 F6, HJ.out.2.2.1.away F6 (fun i hi => (HJ.out.2.1.new i hi).2), HJ.out.2.2.2.1.away F6 (fun i hi => Nat.lt_of_lt_of_le (HJ.out.2.1.new i hi).2 HW.out.hb), fun k' => by
                        rw [HP2.out k', HJ.out.2.2.2.2 k', Bool.or_assoc, ← Bool.decide_or]
                        congr 1
                        apply decide_eq_decide.2
                        have := HE2.out
                        have := HN.out.2.2
                        omega⟩
                    clear HJ B6 F6 k4 HP2 HN HE2
                    go_wp2
                    clear b1' b2'
                    go_roundg (P + 1 - (j + 1))
                    case measure => omega
                    case rel => exact ⟨j + 1, jq + q, F2, by go_num, by omega, by omega, HJ2⟩
                  · have ej : j = P := by omega
                    subst ej
                    have HI6 : Hid (BI w B b1 U wr p lo (lo + n) va (.slice (some ⟨gb, 0, none⟩) ql cap) Q (giv ql c (i + 1)) F') := ⟨HJ.out.2.1, by
                      have := HW.out.tg.give (a := k) (F1 := F') (by rw [HLN.out]; exact HK.out.2.1) (fun k' => by
                        rw [HJ.out.2.2.2.2 k', HF.out.2.1 k']
                        congr 1
                        apply decide_eq_decide.2
                        have h5 := HF.out.2.2.1
                        have h6 := HJ.out.1
                        omega)
                      rw [HK.out.1] at this
                      exact this, HJ.out.2.2.1, HW.out.wl, HJ.out.2.2.2.1, HW.out.hb⟩
                    have b1' := HPD.out
                    clear HJ HW HF
                    go_wp2
                    clear b1'
                    go_roundg (ql + 1 - (i + 1))
                    case measure => omega
                    case rel => exact ⟨i + 1, F', by go_num, by omega, by omega, HI6⟩
              · have h0' : ((tt : Int) == 0) = false := by
                  have : ¬ (tt : Int) = 0 := by omega
                  simpa using this
                clear ht0 htt2
                go_wp2_with fail
                go_loopg [24] (P + 1) (fun g v24 wq => ∃ (j jq : Nat) (F' : Nat → Bool), v24 = .int .i64 (j : Int) ∧ j ≤ P ∧ P + 1 - j ≤ g ∧ Hid (jq = j * q ∧ BU w B U wq p lo (lo + n) F' ∧ RL wq B va (rl (ivl lo (lo + n)) (lo + n) lo) ∧ RL wq b1 (.slice (some ⟨gb, 0, none⟩) ql cap) Q ∧ ∀ k', F' k' = (F k' || decide (f + s - jq ≤ k' ∧ k' < f + s))))
                case atStart => exact ⟨0, 0, F, rfl, by omega, by omega, by simp, HW.out.bu, HW.out.was, HW.out.tk, fun k' => by rw [decide_eq_false (by omega), Bool.or_false]⟩
                case round =>
                  obtain ⟨j, jq, F', rfl, hj, hgj, HJ⟩ := hrel
                  by_cases hjp : j < P
                  · have v1 : (j : Int) < P := by omega
                    have hsz := HSZ.out
                    have hjs : (j + 1) * q ≤ s := by rw [HF.out.2.2.1]; exact Nat.mul_le_mul_right _ (by omega)
                    rw [Nat.add_mul, Nat.one_mul] at hjs
                    obtain ⟨x, hx⟩ : ∃ x : Nat, x = P - 1 - j := ⟨_, rfl⟩
                    have v3 : (P : Int) - 1 - j = (x : Int) := by omega
                    obtain ⟨xq, hxq⟩ : ∃ xq : Nat, xq = x * q := ⟨_, rfl⟩
                    have v2 : (x : Int) * (q : Int) = (xq : Int) := by rw [hxq]; push_cast; rfl
                    have hje : xq + jq + q = s := by
                      rw [HF.out.2.2.1, hxq, HJ.out.1, show P = x + j + 1 by omega, Nat.add_mul, Nat.add_mul, Nat.one_mul]
                    have hjl : jq + q ≤ s := by have := HJ.out.1; omega
                    have hym : (f + xq) % q = 0 := by rw [hxq, Nat.add_mul_mod_self_right]; exact HF.out.2.2.2.2.1
                    have hxs : xq + q ≤ s := by omega
                    obtain ⟨p1, p2⟩ := give_piece (lo := lo) (hi := lo + n) (y := f + xq) (e := e) (q := q) (F := F') HF.out.2.2.2.2.2.1 HF.out.2.2.2.1 hym (by have := HF.out.2.2.2.2.2.2.1; omega) (by have := HF.out.2.2.2.2.2.2.2; omega) (fun k' a b => by
                      rw [HJ.out.2.2.2.2 k', HF.out.1 k' (by omega) (by omega), decide_eq_false (by omega)]; rfl)
                    have k4 := give_any HJ.out.2.1.bf ((f + xq : Nat) : Int) (e : Int)
                    rw [p1] at k4
                    have HP2 : Hid (∀ k', gvF lo (lo + n) F' ((f + xq : Nat) : Int) (e : Int) k' = (F' k' || decide (f + xq ≤ k' ∧ k' < f + xq + q))) := p2
                    generalize gvF lo (lo + n) F' ((f + xq : Nat) : Int) (e : Int) = F2 at *
                    rw [show ((f + xq : Nat) : Int) = (f : Int) + xq by omega] at k4
                    have v5 : (xq : Int) ≤ 512 := by omega
                    have HN : Hid (jq + q = (j + 1) * q ∧ (xq = jq ∨ xq + jq + q = s) ∧ jq + q ≤ s ∧ xq + q ≤ s) := ⟨by rw [Nat.add_mul, Nat.one_mul, HJ.out.1], by omega, hjl, hxs⟩
                    have HE2 : Hid (xq + jq + q = s) := by first | exact hje | exact hje.symm
                    clear p1 p2 hym hjs hjl hxs hje hsz hxq hx
                    have b1' := HPD.out
                    have b2' := HPE.out
                    go_wp2_with fail
                    with_reducible refine k4.mono ?_
                    rintro e0 w6 ⟨rfl, B6, F6⟩
                    have HJ2 : Hid (jq + q = (j + 1) * q ∧ BU w B U w6 p lo (lo + n) F2 ∧ RL w6 B va (rl (ivl lo (lo + n)) (lo + n) lo) ∧ RL w6 b1 (.slice (some ⟨gb, 0, none⟩) ql cap) Q ∧ ∀ k', F2 k' = (F k' || decide (f + s - (jq + q) ≤ k' ∧ k' < f + s))) :=
                      ⟨HN.out.1, HJ.out.2.1.next B6 F6, HJ.out.2.2.1.away F6 (fun i hi => (HJ.out.2.1.new i hi).2), HJ.out.2.2.2.1.away F6 (fun i hi => Nat.lt_of_lt_of_le (HJ.out.2.1.new i hi).2 HW.out.hb), fun k' => by
                        rw [HP2.out k', HJ.out.2.2.2.2 k', Bool.or_assoc, ← Bool.decide_or]
                        congr 1
                        apply decide_eq_decide.2
                        have := HE2.out
                        have := HN.out.2.2
                        omega⟩
                    clear HJ B6 F6 k4 HP2 HN HE2
                    go_wp2
                    clear b1' b2'
                    go_roundg (P + 1 - (j + 1))
                    case measure => omega
                    case rel => exact ⟨j + 1, jq + q, F2, by go_num, by omega, by omega, HJ2⟩
                  · have ej : j = P := by omega
                    subst ej
                    have HI6 : Hid (BI w B b1 U wr p lo (lo + n) va (.slice (some ⟨gb, 0, none⟩) ql cap) Q (giv ql c (i + 1)) F') := ⟨HJ.out.2.1, by
                      have := HW.out.tg.give (a := k) (F1 := F') (by rw [HLN.out]; exact HK.out.2.1) (fun k' => by
                        rw [HJ.out.2.2.2.2 k', HF.out.2.1 k']
                        congr 1
                        apply decide_eq_decide.2
                        have h5 := HF.out.2.2.1
                        have h6 := HJ.out.1
                        omega)
                      rw [HK.out.1] at this
                      exact this, HJ.out.2.2.1, HW.out.wl, HJ.out.2.2.2.1, HW.out.hb⟩
                    have b1' := HPD.out
                    clear HJ HW HF
                    go_wp2
                    clear b1'
                    go_roundg (ql + 1 - (i + 1))
                    case measure => omega
                    case rel => exact ⟨i + 1, F', by go_num, by omega, by omega, HI6⟩
        · have ei : i = ql := by omega
          subst ei
          go_wp2_with fail
          go_meet
          case rel => exact ⟨F, HI⟩
    case rest =>
      obtain ⟨F, HI⟩ := hcut
      have hF : F = ivl lo (lo + n) := HI.out.tg.all (fun i h => giv_all hQ c2 i (by rw [HLN.out] at h; exact h))
      subst hF
      have kt := told_any (HT.out.kp HI.out.bu.kp)
      have hcn : cnt (ivl lo (lo + n)) (lo + n) = n := by
        rw [cnt_step (a := lo) (b := lo + n) (by omega) (fun k a b => (ivl_iff ..).2 ⟨a, b⟩), (cnt_zero lo).2 (fun k hk => by
          cases hv : ivl lo (lo + n) k
          · rfl
          · have := (ivl_iff ..).1 hv; omega)]
        omega
      have HI2 : Hid (BI w B b1 U wc p lo (lo + n) va (.slice na ql cap) Q (giv ql c ql) (ivl lo (lo + n))) := HI.out
      have HCN : Hid (cnt (ivl lo (lo + n)) (lo + n) = n) := hcn
      clear HI hcn HI1
      go_wp2_with fail
      with_reducible refine kt.mono ?_
      rintro e w7 ⟨rfl, K7⟩
      have I7 := HI2.out.kps K7
      have k8 := free_any I7.bu.bf
      rw [HCN.out] at k8
      have k9 := runs_any I7.bu.bf
      have HI7 : Hid (BI w B b1 U w7 p lo (lo + n) va (.slice na ql cap) Q (giv ql c ql) (ivl lo (lo + n))) := I7
      clear kt K7 I7 HI2
      go_wp2_with fail
      with_reducible refine k8.mono ?_
      rintro e w' ⟨rfl, rfl⟩
      clear k8
      go_wp2_with fail
      with_reducible refine k9.mono ?_
      rintro e w8 ⟨⟨vr, rfl, R8⟩, K8⟩
      have k10 := alike_any R8 (HI7.out.was.kp K8) (by have := HI7.out.bu.bf.len; omega)
      have HK8 : Hid (Kp w w8) := (HI7.out.kps K8).bu.kp
      clear k9 R8 K8 HI7
      go_wp2_with fail
      with_reducible refine k10.mono ?_
      rintro e w9 ⟨rfl, D9⟩
      have HK9 : Hid (Kp w w9) := HK8.out.trans D9.kp
      clear k10 D9 HK8
      go_wp2
      go_ret
      exact ⟨rfl, HK9.out⟩
theorem bback_any (a0 a1 a3 a4 : Int) (nc : Option Addr) (mc capc : Nat) (fc : Nat → Int) (w : World) (C : NSK .i64 w nc mc fc) (T : TAB w) :
    Calls Tryd.prog 5 #[.int .i64 a0, .int .i64 a1, .slice nc mc capc, .int .i64 a3, .int .i64 a4] w fun e w' => e = .returned (.bool true) ∧ Kp w w' := by
  obtain ⟨lo, m, r, n, e1, e2, e3, e4, h1, h2, h3, _⟩ := few7 a0 a1
  exact back_walk a0 a1 a3 a4 lo m r n nc mc capc fc w C T e1 e2 e3 e4 h1 h2 h3
end Go.Proofs.YtlclpnaaaiimaaaDoor
