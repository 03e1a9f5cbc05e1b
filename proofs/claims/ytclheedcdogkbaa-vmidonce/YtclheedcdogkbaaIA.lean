/- VmidOnce: its walk. -/
import Derived.Test.YtclheedcdogkbaaI9
namespace Go.Proofs.Ytclheedcdogkbaa
open Go.RowKit
set_option maxRecDepth 10000

theorem isG_nat16 {x : Nat} (h1 : 1 ≤ x) (h2 : x ≤ 255) : isG (x : Int) = true := isG_iff.2 ⟨by omega, by omega⟩
section
variable {W w w' : World} {p hb gb n : Nat} {s : IV}
theorem VO.same (h : VO W w p hb gb n s) (v : VI w' p n s) (f : Fr (· = p) w w') : VO W w' p hb gb n s :=
  ⟨f.kp h.k (fun i hi => by have e : i = p := hi; have := h.p0; omega), v, h.ok, h.un, h.h.fr f (fun e => h.ph e.symm), h.g.fr f (fun e => h.pg e.symm), h.p0, h.h0, h.g0, h.ph, h.pg, h.hg⟩
/-- While a turn rolls: the marks below j are taken off. -/
structure VR (W w : World) (p gb n : Nat) (s : IV) (j : Nat) : Prop where
  k : Kp W w
  v : VI w p n s
  g : ON w gb n (fun i => decide (j ≤ i))
  p0 : W.heap.size ≤ p
  g0 : W.heap.size ≤ gb
  pg : p ≠ gb
theorem VR.step {j : Nat} (h : VR W w p gb n s j) : VR W (w.setCell ⟨gb, j, none⟩ (.bool false)) p gb n s (j + 1) := by
  have f1 : Fr (· = gb) w (w.setCell ⟨gb, j, none⟩ (.bool false)) := (Fr.refl _ w).set _ _ rfl
  refine ⟨f1.kp h.k (fun i hi => by have e : i = gb := hi; have := h.g0; omega), h.v.fr f1 h.pg, (h.g.set j false).like fun i hi => ?_, h.p0, h.g0, h.pg⟩
  by_cases e : i = j
  · rw [if_pos e, decide_eq_false (by omega)]
  · rw [if_neg e]
    by_cases c : j ≤ i
    · rw [decide_eq_true c, decide_eq_true (by omega)]
    · rw [decide_eq_false c, decide_eq_false (by omega)]
/-- The turn has rolled, and the first one is given. -/
theorem VR.first {x : Nat} (h : VR W w p gb n (givS (rolS s) (x : Int)) n) (ok : okV n s) (hx : isG (x : Int) = true) :
    VO W (((w.alloc (.cells (offW 41) 3)).setCell ⟨gb, 0, none⟩ (.bool true)).setCell ⟨w.heap.size, x, none⟩ (.int .i64 1)) p w.heap.size gb n (givS (rolS s) (x : Int)) := by
  have k0 : Kp w (w.alloc (.cells (offW 41) 3)) := (Kp.refl w).alloc _
  have R := WI.made w 41
  generalize w.alloc (.cells (offW 41) 3) = v0 at *
  have hgl := h.g.lt
  have hpl := h.v.lt
  have hsz := h.k.size
  generalize w.heap.size = hb at *
  have n1 := ok.n1
  have f1 : Fr (· = gb) v0 (v0.setCell ⟨gb, 0, none⟩ (.bool true)) := (Fr.refl _ v0).set _ _ rfl
  have f2 : Fr (· = hb) (v0.setCell ⟨gb, 0, none⟩ (.bool true)) ((v0.setCell ⟨gb, 0, none⟩ (.bool true)).setCell ⟨hb, x, none⟩ (.int .i64 ((1 : Nat) : Int))) := (Fr.refl _ _).set _ _ rfl
  have h0 : hs (rolS s) (x : Int) = 0 := hs_roll s
  refine ⟨f2.kp (f1.kp (h.k.trans k0) (fun i hi => by have e : i = gb := hi; have := h.g0; omega)) (fun i hi => by have e : i = hb := hi; omega), ((h.v.kp k0).fr f1 h.pg).fr f2 (by omega), ok.roll.give hx (by show (0 : Nat) ≠ n; omega), uniq_give hx h0 (uniq_roll s), (((R.fr f1 (by omega)).set x 1)).like fun i hi => ?_, (((h.g.kp k0).set 0 true).fr f2 (by omega)).like fun i hi => ?_, h.p0, hsz, h.g0, by omega, h.pg, by omega⟩
  · rw [hs_give2 hx h0, hs_roll]
    unfold updI
    by_cases e : i = x
    · rw [if_pos (by omega), if_pos e]; rfl
    · rw [if_neg (by omega), if_neg e]
  · show decide (i < 0 + 1) = _
    by_cases e : i = 0
    · rw [if_pos e]; exact decide_eq_true (by omega)
    · rw [if_neg e, decide_eq_false (by omega), decide_eq_false (by omega)]
theorem get_here {n : Nat} {s : IV} {x : Int} (hx : isG x = true) (h : hs s x ≠ 0) : getI n s x = hs s x ∧ getB n s x = false ∧ getS n s x = s ∧ getE x = 0 := by
  unfold getI getB getS getE
  rw [if_pos hx, if_pos hx, if_pos hx, if_pos hx, if_pos h, if_pos h, if_pos h]
  exact ⟨rfl, rfl, rfl, rfl⟩
theorem get_roll {n : Nat} {s : IV} {x : Int} (hx : isG x = true) (h : hs s x = 0) (hg : s.g = n) : getI n s x = 1 ∧ getB n s x = true ∧ getS n s x = givS (rolS s) x ∧ getE x = 0 := by
  have c : ¬ hs s x ≠ 0 := fun e => e h
  unfold getI getB getS getE
  rw [if_pos hx, if_pos hx, if_pos hx, if_pos hx, if_neg c, if_neg c, if_neg c, if_pos hg, if_pos hg]
  exact ⟨rfl, decide_eq_true hg, rfl, rfl⟩
theorem get_next {n : Nat} {s : IV} {x : Int} (hx : isG x = true) (h : hs s x = 0) (hg : s.g ≠ n) : getI n s x = s.g + 1 ∧ getB n s x = false ∧ getS n s x = givS s x ∧ getE x = 0 := by
  have c : ¬ hs s x ≠ 0 := fun e => e h
  unfold getI getB getS getE
  rw [if_pos hx, if_pos hx, if_pos hx, if_pos hx, if_neg c, if_neg c, if_neg c, if_neg hg, if_neg hg]
  exact ⟨rfl, decide_eq_false hg, rfl, rfl⟩
end

set_option maxHeartbeats 16000000 in
set_option maxRecDepth 100000 in
theorem once_walk (a0 : Int) (m r n : Nat) (nc : Option Addr) (mc capc : Nat) (V : Nat → Int × Int) (w : World) (C : Steps w nc mc V)
    (e1 : bits .and .i64 a0 31 = (m : Int)) (e2 : (m : Int).tmod 20 = (r : Int)) (e3 : 1 + (r : Int) = (n : Int)) (h1 : 1 ≤ n) (h2 : n ≤ 20) :
    Calls Try.prog 4 #[.int .i64 a0, .slice nc mc capc] w fun e w' => e = .returned (.bool true) ∧ Kp w w' := by
  have cN := vnew_ok n w h1 (by omega)
  have CC : Aside (Steps w nc mc V) := C
  have z1 : (n : Int) ≤ 20 := by omega
  have z2 : (1 : Int) ≤ n := by omega
  have H1 : Hid (1 ≤ n ∧ n ≤ 20) := ⟨h1, h2⟩
  obtain ⟨p, hp⟩ : ∃ p, w.heap.size = p := ⟨_, rfl⟩
  have HP : Hid (w.heap.size = p) := hp
  rw [hp] at cN
  clear C h1 h2 hp
  go_enter Try.func4, Try.ntmps4
  go_wp2_with fail
  with_reducible refine cN.mono ?_
  rintro e w1 ⟨rfl, v1, k1⟩
  clear cN e1 e2 e3
  have m1 := make_wi 41 w1 (by omega)
  have r1 := WI.made w1 41
  have q1 : Kp w1 (w1.alloc (.cells (offW 41) 3)) := (Kp.refl w1).alloc _
  have s1 : (w1.alloc (.cells (offW 41) 3)).heap.size = w1.heap.size + 1 := by simp
  generalize w1.alloc (.cells (offW 41) 3) = w2 at *
  rw [show (((41 : Nat) : Int)) = 41 from rfl] at m1
  have m2 := make_marks n w2 (by have := H1.out.2; omega)
  have r2 := ON.made w2 n
  have q2 : Kp w2 (w2.alloc (.cells (offB n) 4)) := (Kp.refl w2).alloc _
  generalize w2.alloc (.cells (offB n) 4) = w3 at *
  obtain ⟨hb, hhb⟩ : ∃ hb, w1.heap.size = hb := ⟨_, rfl⟩
  obtain ⟨gb, hgb⟩ : ∃ gb, w2.heap.size = gb := ⟨_, rfl⟩
  rw [hhb] at m1 r1
  rw [hgb] at m2 r2
  have I0 : Hid (VO w w3 p hb gb n newS) := by
    have := v1.lt
    have := k1.size
    have := HP.out
    exact ⟨(k1.trans q1).trans q2, v1.kp (q1.trans q2), newS_ok H1.out.1 (by have := H1.out.2; omega), uniq_new, (r1.kp q2).like fun i _ => (by show hs newS (i : Int) = 0; unfold hs; split <;> rfl), r2.like fun i _ => (by show decide (i < 0) = false; simp), by omega, by omega, by omega, by omega, by omega, by omega⟩
  clear v1 k1 q1 q2 s1 r1 r2 hhb hgb
  have cT := vtold_any
  go_upto_block 0 with fail
  go_cut [7] (fun v7 wx => ∃ (s : IV) (hb : Nat), v7 = .slice (some ⟨hb, 0, none⟩) 41 41 ∧ Hid (VO w wx p hb gb n s))
  case first =>
    go_wp2_with fail
    go_loopg [7, 9] 201 (fun gk v7 v9 wr => ∃ (i : Nat) (s : IV) (hb : Nat), v9 = .int .i64 (i : Int) ∧ v7 = .slice (some ⟨hb, 0, none⟩) 41 41 ∧ i ≤ 200 ∧ 201 - i ≤ gk ∧ Hid (VO w wr p hb gb n s ∧ s.t ≤ i))
    case atStart => exact ⟨0, newS, hb, rfl, rfl, by omega, by omega, I0.out, Nat.le_refl 0⟩
    case round =>
      clear I0
      obtain ⟨i, s, hb, rfl, rfl, hi, hgk, HI⟩ := hrel
      by_cases hlt : i < mc ∧ i < 200
      · have y1 : (i : Int) < mc := by omega
        have y2 : (i : Int) < 200 := by omega
        obtain ⟨⟨cb, co, rfl, d1, d2, d3⟩, _, _⟩ := CC.out i hlt.1
        have o0 := (HI.out.1.k.cell (p := ⟨cb, co + i * 2, none⟩) d1).trans d2
        have o1 := (HI.out.1.k.cell (p := ⟨cb, co + i * 2 + 1, none⟩) d1).trans d3
        generalize (V i).1 = kd at *
        generalize (V i).2 = x at *
        clear d1 d2 d3
        obtain ⟨t, k, g1, g2, g3, g4, g5⟩ := place_of x 40 (by decide)
        rw [show (((40 : Nat) : Int)) = 40 from rfl] at g1 g2 g3 g4
        obtain ⟨q, q1, q2⟩ := and_lim kd 3 (by omega)
        rw [show ((3 : Nat) : Int) = 3 from rfl] at q1
        obtain ⟨G, hG⟩ : ∃ G : Nat, 1 + (k : Int) = (G : Int) := ⟨k + 1, by omega⟩
        have G1 : 1 ≤ G := by omega
        have G2 : G ≤ 40 := by omega
        have hX : Hid (isG (G : Int) = true) := isG_nat16 G1 (by omega)
        have y3 : (G : Int) ≤ 40 := by omega
        have y4 : (1 : Int) ≤ G := by omega
        have y5 : (0 : Int) ≤ G := by omega
        have y6 : (G : Int) < 41 := by omega
        have oH := HI.out.1.h.cell G (by omega)
        have oF := HI.out.1.h.fz
        clear g5
        by_cases h3 : q = 3
        · have b3 : ((q : Int) == 3) = true := by rw [h3]; rfl
          have b4 : (q == 3) = true := by rw [h3]; rfl
          have cG := vdrop_any (HI.out.1.v.kp (Kp.refl wr).drew) HI.out.1.ok (G : Int)
          have hpb : Hid (¬ hb = p) := fun e => HI.out.1.ph e.symm
          have hbl : Hid (hb < wr.heap.size) := HI.out.1.h.lt
          have HD : Hid (∀ w', VI w' p n (drpS s (G : Int)) → Fr (· = p) wr.drew w' → VO w (w'.setCell ⟨hb, G, none⟩ (.int .i64 0)) p hb gb n (drpS s (G : Int)) ∧ (drpS s (G : Int)).t ≤ i + 1) := fun w' v f => ⟨(HI.out.1.kp (Kp.refl wr).drew).drop v f, by have := HI.out.2; unfold drpS; split; omega; show s.t ≤ i + 1; omega⟩
          generalize drpS s (G : Int) = S at *
          generalize hs s (G : Int) = h at *
          by_cases h0 : h = 0
          · subst h0
            have oH0 : wr.cell? ⟨hb, G, none⟩ = some (.int .i64 0) := oH
            have cG0 : Calls Try.prog 10 #[.pointer (some ⟨p, 0, none⟩), .int .i64 (G : Int)] wr.drew fun e w' => e = .returned (.bool false) ∧ VI w' p n S ∧ Fr (· = p) wr.drew w' := cG
            clear oH cG HI h3
            go_wp2_with fail
            go_region_held3 (fun w' => w'.cell? ⟨hb, G, none⟩ = some (.int .i64 0))
              (first | go_keep | exact (F5.cell (a := ⟨hb, G, none⟩) hbl.out hpb.out).trans oH0)
              (first | (go_at_call 10; with_reducible refine cG0.mono ?_; rintro e w5 ⟨rfl, V5, F5⟩))
            have HN := hid_of (HD.out w5 V5 F5)
            have f5 : ∀ j, w5.frozen? ⟨hb, j, none⟩ = false := fun j => (World.frozen?_of_block (a := ⟨hb, j, none⟩) (F5.block hb hbl.out hpb.out)).trans (oF j)
            clear V5 F5 cG0 HD oF oH0 o0 o1
            go_wp2_with fail
            generalize w5.setCell ⟨hb, G, none⟩ (.int .i64 0) = w6 at *
            go_roundg (201 - (i + 1))
            case measure => omega
            case rel => exact ⟨i + 1, S, hb, by go_num, rfl, by omega, by omega, HN⟩
          · have h1 : ((h : Int) == 0) = false := by rw [beq_eq_false_iff_ne]; omega
            have h2 : ((h : Int) != 0) = true := by simp; omega
            have h4 : (h == 0) = false := by rw [beq_eq_false_iff_ne]; exact h0
            have h5 : (h != 0) = true := by simp; omega
            have h6 : decide (h = 0) = false := decide_eq_false h0
            have oH0 : wr.cell? ⟨hb, G, none⟩ = some (.int .i64 (h : Int)) := oH
            have cG0 : Calls Try.prog 10 #[.pointer (some ⟨p, 0, none⟩), .int .i64 (G : Int)] wr.drew fun e w' => e = .returned (.bool true) ∧ VI w' p n S ∧ Fr (· = p) wr.drew w' := by rw [show (h != 0) = true from bne_iff_ne.2 h0] at cG; exact cG
            clear oH cG HI h3
            go_wp2_with fail
            go_region_held3 (fun w' => w'.cell? ⟨hb, G, none⟩ = some (.int .i64 (h : Int)))
              (first | go_keep | exact (F5.cell (a := ⟨hb, G, none⟩) hbl.out hpb.out).trans oH0)
              (first | (go_at_call 10; with_reducible refine cG0.mono ?_; rintro e w5 ⟨rfl, V5, F5⟩))
            have HN := hid_of (HD.out w5 V5 F5)
            have f5 : ∀ j, w5.frozen? ⟨hb, j, none⟩ = false := fun j => (World.frozen?_of_block (a := ⟨hb, j, none⟩) (F5.block hb hbl.out hpb.out)).trans (oF j)
            clear V5 F5 cG0 HD oF oH0 o0 o1
            go_wp2_with fail
            generalize w5.setCell ⟨hb, G, none⟩ (.int .i64 0) = w6 at *
            go_roundg (201 - (i + 1))
            case measure => omega
            case rel => exact ⟨i + 1, S, hb, by go_num, rfl, by omega, by omega, HN⟩
        · have b3 : ((q : Int) == 3) = false := by rw [beq_eq_false_iff_ne]; omega
          have b4 : (q == 3) = false := by rw [beq_eq_false_iff_ne]; exact h3
          clear h3
          by_cases hz : hs s (G : Int) = 0
          · have cG := vget_any HI.out.1.v HI.out.1.ok (G : Int) (by have := HI.out.2; omega)
            have cU := vturn_any HI.out.1.v
            by_cases hgn : s.g = n
            · obtain ⟨g1', g2', g3', g4'⟩ := get_roll (n := n) hX.out hz hgn
              rw [g1', g2', g3', g4'] at cG
              rw [show (((1 : Nat) : Int)) = 1 from rfl] at cG
              have hT : Hid ((s.t : Int) + 1 = ((s.t + 1 : Nat) : Int) ∧ IntKind.i64.wrap ((s.t + 1 : Nat) : Int) = ((s.t + 1 : Nat) : Int)) := ⟨by omega, by rw [IntKind.wrap_i64]; have := HI.out.2; omega⟩
              have hpb : Hid (¬ hb = p ∧ hb < wr.heap.size) := ⟨fun e => HI.out.1.ph e.symm, HI.out.1.h.lt⟩
              rw [hz] at oH
              have HX : Hid (∀ w', VI w' p n (givS (rolS s) (G : Int)) → Fr (· = p) wr w' → VR w w' p gb n (givS (rolS s) (G : Int)) 0) := fun w' v f => ⟨f.kp HI.out.1.k (fun i hi => by have e : i = p := hi; have := HI.out.1.p0; omega), v, (HI.out.1.g.fr f (fun e => HI.out.1.pg e.symm)).like fun i hi => (by rw [hgn, decide_eq_true hi, decide_eq_true (Nat.zero_le _)]), HI.out.1.p0, HI.out.1.g0, HI.out.1.pg⟩
              have hgt : (givS (rolS s) (G : Int)).t = s.t + 1 := rfl
              have HF : Hid (∀ w', VR w w' p gb n (givS (rolS s) (G : Int)) n → VO w (((w'.alloc (.cells (offW 41) 3)).setCell ⟨gb, 0, none⟩ (.bool true)).setCell ⟨w'.heap.size, G, none⟩ (.int .i64 1)) p w'.heap.size gb n (givS (rolS s) (G : Int)) ∧ (givS (rolS s) (G : Int)).t ≤ i + 1) := fun w' h => ⟨h.first HI.out.1.ok hX.out, by have := HI.out.2; show s.t + 1 ≤ i + 1; omega⟩
              clear HI g1' g2' g3' g4' hz hgn
              go_wp2_with fail
              with_reducible refine cU.mono ?_
              rintro e wr ⟨rfl, rfl⟩
              go_wp2_with fail
              with_reducible refine cG.mono ?_
              rintro e w5 ⟨rfl, V5, F5⟩
              have cV := vturn_any V5
              rw [hgt] at cV
              have oH5 : w5.cell? ⟨hb, G, none⟩ = some (.int .i64 0) := (F5.cell (a := ⟨hb, G, none⟩) hpb.out.2 hpb.out.1).trans oH
              have H5 := hid_of (HX.out w5 V5 F5)
              clear V5 F5 HX cG cU oH oF o0 o1 hpb hgt
              obtain ⟨t0, t1'⟩ := hT.out
              generalize givS (rolS s) (G : Int) = S at *
              generalize s.t + 1 = t1 at *
              go_wp2_with (go_at_call 14; with_reducible refine cV.mono ?_; rintro e w5 ⟨rfl, rfl⟩)
              go_loopg [15] n (fun gk v15 wr => ∃ j : Nat, v15 = .int .i64 (j : Int) ∧ j ≤ n ∧ n - j ≤ gk ∧ Hid (VR w wr p gb n S j))
              case atStart => exact ⟨0, rfl, by omega, by omega, H5.out⟩
              case round =>
                clear H5
                obtain ⟨j, rfl, hj, hgj, HJ⟩ := hrel
                by_cases hlj : j < n
                · have y7 : (j : Int) < n := by omega
                  have oG := HJ.out.g.cell j hlj
                  rw [decide_eq_true (Nat.le_refl _)] at oG
                  have oGF := HJ.out.g.frz
                  have HN := hid_of HJ.out.step
                  clear HJ
                  go_wp2_with fail
                  generalize wr.setCell ⟨gb, j, none⟩ (.bool false) = w6 at *
                  go_roundg (n - (j + 1))
                  case measure => omega
                  case rel => exact ⟨j + 1, by go_num, by omega, by omega, HN⟩
                · have ej : j = n := by omega
                  subst ej
                  have HL := hid_of (HF.out wr HJ.out)
                  have m4 := make_wi 41 wr (by omega)
                  rw [show (((41 : Nat) : Int)) = 41 from rfl] at m4
                  have oG := (HJ.out.g.kp ((Kp.refl wr).alloc (.cells (offW 41) 3))).cell 0 (by have := H1.out.1; omega)
                  have oGF := (HJ.out.g.kp ((Kp.refl wr).alloc (.cells (offW 41) 3))).frz
                  have oL := HJ.out.g.lt
                  have R := WI.made wr 41
                  have eb : Hid (wr.heap.size ≠ gb) := by show _ ≠ _; omega
                  rw [decide_eq_false (by have := H1.out.1; omega)] at oG
                  generalize wr.alloc (.cells (offW 41) 3) = w6 at *
                  generalize wr.heap.size = hb2 at *
                  have oH6 : (w6.setCell ⟨gb, 0, none⟩ (.bool true)).cell? ⟨hb2, G, none⟩ = some (.int .i64 0) := by rw [World.cell?_setCell_other _ _ _ _ (wi_ne (.inl (fun e => eb.out e.symm)))]; exact R.cell G (by omega)
                  have fH6 : ∀ j, (w6.setCell ⟨gb, 0, none⟩ (.bool true)).frozen? ⟨hb2, j, none⟩ = false := fun j => by rw [World.frozen?_setCell]; exact R.fz j
                  clear R HJ HF oL oH5
                  generalize hw7 : w6.setCell ⟨gb, 0, none⟩ (.bool true) = w7 at *
                  go_wp2_with fail
                  go_roundg (201 - (i + 1))
                  case measure => omega
                  case rel => exact ⟨i + 1, S, hb2, by go_num, rfl, by omega, by omega, HL⟩
            · obtain ⟨g1', g2', g3', g4'⟩ := get_next (n := n) hX.out hz hgn
              rw [g1', g2', g3', g4'] at cG
              have hgl : s.g < n := by have := HI.out.1.ok.g; omega
              have HX : Hid (∀ w', VI w' p n (givS s (G : Int)) → Fr (· = p) wr w' → VO w ((w'.setCell ⟨gb, s.g, none⟩ (.bool true)).setCell ⟨hb, G, none⟩ (.int .i64 ((s.g + 1 : Nat) : Int))) p hb gb n (givS s (G : Int)) ∧ (givS s (G : Int)).t ≤ i + 1) := fun w' v f => ⟨HI.out.1.give hX.out hz hgn v f, by have := HI.out.2; show s.t ≤ i + 1; omega⟩
              have hT : Hid ((s.t : Int) + 1 = ((s.t + 1 : Nat) : Int) ∧ IntKind.i64.wrap ((s.t + 1 : Nat) : Int) = ((s.t + 1 : Nat) : Int) ∧ ((s.t : Int) == ((s.t + 1 : Nat) : Int)) = false ∧ (s.t == s.t + 1) = false) := ⟨by omega, by rw [IntKind.wrap_i64]; have := HI.out.2; omega, by rw [beq_eq_false_iff_ne]; omega, by rw [beq_eq_false_iff_ne]; omega⟩
              have hpb : Hid ((¬ hb = p ∧ hb < wr.heap.size) ∧ ¬ gb = p ∧ gb < wr.heap.size) := ⟨⟨fun e => HI.out.1.ph e.symm, HI.out.1.h.lt⟩, fun e => HI.out.1.pg e.symm, HI.out.1.g.lt⟩
              have hhg : Hid (hb ≠ gb) := HI.out.1.hg
              rw [hz] at oH
              have oG := HI.out.1.g.cell s.g hgl
              rw [decide_eq_false (Nat.lt_irrefl _)] at oG
              have oGF := HI.out.1.g.frz
              have hgt : (givS s (G : Int)).t = s.t := rfl
              have u0 : Hid (((s.g + 1 : Nat) : Int) - 1 = (s.g : Int)) := by show _ = _; omega
              have u1 : Hid (((s.g + 1 : Nat) : Int) ≤ n) := by show _ ≤ _; omega
              have u2 : Hid ((1 : Int) ≤ ((s.g + 1 : Nat) : Int)) := by show _ ≤ _; omega
              have u3 : Hid ((s.g : Int) < n) := by show _ < _; omega
              clear HI g1' g2' g3' g4' hz hgn
              go_wp2_with fail
              with_reducible refine cU.mono ?_
              rintro e wr ⟨rfl, rfl⟩
              go_wp2_with fail
              with_reducible refine cG.mono ?_
              rintro e w5 ⟨rfl, V5, F5⟩
              have cV := vturn_any V5
              rw [hgt] at cV
              have oH5 : w5.cell? ⟨hb, G, none⟩ = some (.int .i64 0) := (F5.cell (a := ⟨hb, G, none⟩) hpb.out.1.2 hpb.out.1.1).trans oH
              have fH5 : ∀ j, w5.frozen? ⟨hb, j, none⟩ = false := fun j => (World.frozen?_of_block (a := ⟨hb, j, none⟩) (F5.block hb hpb.out.1.2 hpb.out.1.1)).trans (oF j)
              have oG5 := (F5.cell (a := ⟨gb, s.g, none⟩) hpb.out.2.2 hpb.out.2.1).trans oG
              have fG5 : ∀ j, w5.frozen? ⟨gb, j, none⟩ = false := fun j => (World.frozen?_of_block (a := ⟨gb, j, none⟩) (F5.block gb hpb.out.2.2 hpb.out.2.1)).trans (oGF j)
              have HN := hid_of (HX.out w5 V5 F5)
              have oH6 : (w5.setCell ⟨gb, s.g, none⟩ (.bool true)).cell? ⟨hb, G, none⟩ = some (.int .i64 0) := by rw [World.cell?_setCell_other _ _ _ _ (wi_ne (.inl (fun e => hhg.out e.symm)))]; exact oH5
              have fH6 : ∀ j, (w5.setCell ⟨gb, s.g, none⟩ (.bool true)).frozen? ⟨hb, j, none⟩ = false := fun j => by rw [World.frozen?_setCell]; exact fH5 j
              clear V5 F5 HX cG cU oH oF oG oGF o0 o1 hpb hhg hgl hgt
              obtain ⟨t0, t1', t2, t3⟩ := hT.out
              replace u0 := u0.out
              replace u1 := u1.out
              replace u2 := u2.out
              replace u3 := u3.out
              generalize givS s (G : Int) = S at *
              generalize s.t + 1 = t1 at *
              generalize s.g + 1 = idn at *
              generalize s.g = g at *
              generalize hw6 : w5.setCell ⟨gb, g, none⟩ (.bool true) = w6 at *
              go_wp2_with (go_at_call 14; with_reducible refine cV.mono ?_; rintro e w5 ⟨rfl, rfl⟩)
              go_roundg (201 - (i + 1))
              case measure => omega
              case rel => exact ⟨i + 1, S, hb, by go_num, rfl, by omega, by omega, HN⟩
          · have cG := vget_any HI.out.1.v HI.out.1.ok (G : Int) (by have := HI.out.2; omega)
            have cU := vturn_any HI.out.1.v
            obtain ⟨g1', g2', g3', g4'⟩ := get_here (n := n) hX.out hz
            rw [g1', g2', g3', g4'] at cG
            obtain ⟨k1, k2, _⟩ := hs_hit hz
            have u1 : (hs s (G : Int) : Int) ≤ n := by have := HI.out.1.ok.g; omega
            have u2 : (1 : Int) ≤ (hs s (G : Int) : Int) := by omega
            have hb0 : ((hs s (G : Int) : Int) == 0) = false := by rw [beq_eq_false_iff_ne]; omega
            have hb1 : ((hs s (G : Int) : Int) != 0) = true := by simp; omega
            have hb2 : (hs s (G : Int) == 0) = false := by rw [beq_eq_false_iff_ne]; omega
            have hb3 : (hs s (G : Int) != 0) = true := by simp; omega
            have HX : Hid (∀ w', VI w' p n s → Fr (· = p) wr w' → VO w w' p hb gb n s ∧ s.t ≤ i + 1) := fun w' v f => ⟨HI.out.1.same v f, by have := HI.out.2; omega⟩
            have hT : Hid ((s.t : Int) + 1 = ((s.t + 1 : Nat) : Int) ∧ IntKind.i64.wrap ((s.t + 1 : Nat) : Int) = ((s.t + 1 : Nat) : Int) ∧ ((s.t : Int) == ((s.t + 1 : Nat) : Int)) = false ∧ (s.t == s.t + 1) = false) := ⟨by omega, by rw [IntKind.wrap_i64]; have := HI.out.2; omega, by rw [beq_eq_false_iff_ne]; omega, by rw [beq_eq_false_iff_ne]; omega⟩
            have hpb : Hid (¬ hb = p ∧ hb < wr.heap.size) := ⟨fun e => HI.out.1.ph e.symm, HI.out.1.h.lt⟩
            generalize hs s (G : Int) = h at *
            clear HI g1' g2' g3' g4' k1 k2 hz
            go_wp2_with fail
            with_reducible refine cU.mono ?_
            rintro e wr ⟨rfl, rfl⟩
            go_wp2_with fail
            with_reducible refine cG.mono ?_
            rintro e w5 ⟨rfl, V5, F5⟩
            have cV := vturn_any V5
            have oH5 := (F5.cell (a := ⟨hb, G, none⟩) hpb.out.2 hpb.out.1).trans oH
            have HN := hid_of (HX.out w5 V5 F5)
            clear V5 F5 HX cG cU oH oF o0 o1 hpb
            obtain ⟨t0, t1', t2, t3⟩ := hT.out
            generalize s.t + 1 = t1 at *
            go_wp2_with (go_at_call 14; with_reducible refine cV.mono ?_; rintro e w5 ⟨rfl, rfl⟩)
            go_roundg (201 - (i + 1))
            case measure => omega
            case rel => exact ⟨i + 1, s, hb, by go_num, rfl, by omega, by omega, HN⟩

      · have HV := hid_of HI.out.1
        clear HI
        by_cases hm : i < mc
        · have ei : i = 200 := by omega
          subst ei
          have y1 : (200 : Int) < mc := by omega
          rw [show ((200 : Nat) : Int) = 200 from rfl]
          go_wp2_with fail
          go_meet
          case rel => exact ⟨s, hb, rfl, HV⟩
        · have y1 : ¬ (i : Int) < mc := by omega
          go_wp2_with fail
          go_meet
          case rel => exact ⟨s, hb, rfl, HV⟩
  case rest =>
    obtain ⟨s, hb, rfl, HV⟩ := hcut
    clear I0
    go_wp2_with fail
    go_loopg [16] 41 (fun gk v16 wr => ∃ j : Nat, v16 = .int .i64 (j : Int) ∧ 1 ≤ j ∧ j ≤ 41 ∧ 41 - j ≤ gk ∧ wr = wc)
    case atStart => exact ⟨1, rfl, by omega, by omega, by omega, rfl⟩
    case round =>
      obtain ⟨j, rfl, j1, j2, hgj, rfl⟩ := hrel
      by_cases hlj : j < 41
      · have y7 : (j : Int) < 41 := by omega
        have cH := vhas_any HV.out.v HV.out.ok (j : Int)
        have oH := HV.out.h.cell j hlj
        generalize hs s (j : Int) = h at *
        by_cases h0 : h = 0
        · subst h0
          rw [show (((0 : Nat) : Int)) = 0 from rfl] at cH oH
          rw [show ((0 : Nat) != 0) = false from rfl] at cH
          go_wp2_with fail
          with_reducible refine cH.mono ?_
          rintro e wr ⟨rfl, rfl⟩
          go_wp2_with fail
          go_roundg (41 - (j + 1))
          case measure => omega
          case rel => exact ⟨j + 1, by go_num, by omega, by omega, by omega, rfl⟩
        · have h1 : ((h : Int) == 0) = false := by rw [beq_eq_false_iff_ne]; omega
          have h2 : ((h : Int) != 0) = true := by simp; omega
          have h4 : (h == 0) = false := by rw [beq_eq_false_iff_ne]; exact h0
          have h5 : (h != 0) = true := by simp; omega
          have h6 : decide (h = 0) = false := decide_eq_false h0
          rw [h5] at cH
          go_wp2_with fail
          with_reducible refine cH.mono ?_
          rintro e wr ⟨rfl, rfl⟩
          go_wp2_with fail
          go_roundg (41 - (j + 1))
          case measure => omega
          case rel => exact ⟨j + 1, by go_num, by omega, by omega, by omega, rfl⟩
      · have ej : j = 41 := by omega
        subst ej
        have HK := hid_of HV.out.k
        clear HV
        rw [show ((41 : Nat) : Int) = 41 from rfl]
        go_wp2_with fail
        with_reducible refine (cT _).mono ?_
        rintro e w1 ⟨rfl, K1⟩
        have HK2 := hid_of (HK.out.trans K1)
        clear K1 cT
        go_wp2
        go_ret
        exact ⟨rfl, HK2.out⟩

theorem once_any (a0 : Int) (nc : Option Addr) (mc capc : Nat) (V : Nat → Int × Int) (w : World) (C : Steps w nc mc V) :
    Calls Try.prog 4 #[.int .i64 a0, .slice nc mc capc] w fun e w' => e = .returned (.bool true) ∧ Kp w w' := by
  obtain ⟨m, m1, m2⟩ := and_lim a0 31 (by omega)
  refine once_walk a0 m (m % 20) (1 + m % 20) nc mc capc V w C m1 (by rw [Int.tmod_eq_emod_of_nonneg (by omega)]; omega) (by omega) (by omega) (by omega)

end Go.Proofs.Ytclheedcdogkbaa
