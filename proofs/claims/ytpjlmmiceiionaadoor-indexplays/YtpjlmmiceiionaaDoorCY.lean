/- index: the document's index: Alike. -/
import Derived.Test.YtpjlmmiceiionaaDoorJ41
import Derived.Deep.DeepCutAuto
namespace Go.Proofs.YtpjlmmiceiionaaDoor
open Go.RowKit Go.Maps
set_option maxRecDepth 10000

section
variable {w w' : World} {X : Nat → Prop} {r : Nat} {F : Nat → Nat → Nat} {Sg : Nat → Option CN} {vf v : Value} {Bs : List Nat}
/-- What a round of Alike begins with. -/
def RA (w wr : World) (Sg : Nat → Option CN) (i : Nat) (v3 : Value) : Prop := ∃ M, GrS wr w.heap.size v3 M (dTo (inL Sg) i) (mkD Sg 12) ∧ HdTo (inL Sg) i M ∧ Kp w wr
theorem cells_in {L : List (Nat × CN)} {na : Option Addr} {i : Nat} {y : Nat × CN} (h : AS LTin w na L) (hy : L[i]? = some y) : ∃ g o, na = some ⟨g, o, none⟩ ∧ w.cell? ⟨g, o + i * 2, none⟩ = some (.int .i64 (y.1 : Int)) ∧ w.cell? ⟨g, o + i * 2 + 1, none⟩ = some (cK y.2) := by
  obtain ⟨g, o, e, hc⟩ := h.elem LTin_ok hy
  exact ⟨g, o, e, hc 0 _ rfl, hc 1 _ rfl⟩
set_option maxHeartbeats 16000000 in
theorem ralike_any (h : RIx w X r F Sg vf v Bs) (hC : ∀ i d, Sg i = some d → okC d) :
    Calls Tryd.prog 20 #[.pointer (some ⟨r, 0, none⟩)] w fun e w' => ∃ v L D, e = .returned v ∧ GrS w' w.heap.size v L D (mkD Sg 12) ∧ (∀ d, mkD Sg 12 d ≠ 0 → D d) ∧ L.Pairwise (fun x y => x.2 < y.2) ∧ Kp w w' := by
  obtain ⟨L, hL⟩ : ∃ L, L = inL Sg := ⟨_, rfl⟩
  have hl := inL_len Sg
  have ax := h.ax
  rw [← hL] at hl ax
  obtain ⟨na, cl, rfl, _, hform, _⟩ := ax.form LTin_ok
  obtain ⟨n, hn⟩ : ∃ n, n = L.length := ⟨_, rfl⟩
  have src := ax.src LTin_ok
  have HN : Hid (n = L.length ∧ L = inL Sg ∧ AS LTin w na L ∧ (∀ y ∈ L, okC y.2)) := ⟨hn, hL, src, fun y hy => by
    rw [hL] at hy
    exact hC _ _ ((inL_mem _ y).1 hy).2⟩
  have K1 : Aside (∀ wr, Kp w wr → wr.cell? ⟨r, 1, none⟩ = some (.slice na n cl)) := fun wr k => by rw [hn]; exact (h.kp k).c1
  have bn : (n : Int) ≤ 12 := by omega
  have H0 : Hid (RA w w Sg 0 (.slice none 0 0)) := ⟨[], by rw [dTo_0]; exact GrS.start w _ _, ⟨List.Pairwise.nil, fun e he => by cases he⟩, Kp.refl w⟩
  clear h hC ax hform hn hL hl src
  go_enter Tryd.func20, Tryd.ntmps20
  go_wp2_with fail
  go_loopg [3, 4] (n + 1) (fun gg v3 v4 wr => ∃ i : Nat, v4 = .int .i64 (i : Int) ∧ i ≤ n ∧ n + 1 - i ≤ gg ∧ Hid (RA w wr Sg i v3))
  case atStart => exact ⟨0, rfl, by omega, by omega, H0⟩
  case round =>
    clear H0
    obtain ⟨i, rfl, hi, hg, HI⟩ := hrel
    have c1 := K1.out wr (by obtain ⟨_, _, _, k⟩ := HI.out; exact k)
    by_cases hlt : i < n
    · have z1 : (i : Int) < (n : Int) := by omega
      obtain ⟨y, hy⟩ : ∃ y, L[i]? = some y := ⟨_, List.getElem?_eq_getElem (by have := HN.out.1; omega)⟩
      have HY : Hid (L[i]? = some y) := hy
      clear hy
      go_wp2_with fail
      go_loopg [5, 6] (i + 1) (fun g2 v5 v6 wx => ∃ k : Nat, v6 = .int .i64 (k : Int) ∧ v5 = .bool (frst L k y.2) ∧ k ≤ i ∧ i + 1 - k ≤ g2 ∧ Hid (Kp wr wx))
      case atStart => exact ⟨0, rfl, by rw [frst_0], by omega, by omega, Kp.refl wr⟩
      case round =>
        clear c1
        obtain ⟨k, rfl, rfl, hk, hg2, HK⟩ := hrel
        have KA : Kp w wr := by obtain ⟨_, _, _, k⟩ := HI.out; exact k.trans HK.out
        have c1 := K1.out wr KA
        by_cases hkt : k < i
        · have z2 : (k : Int) < (i : Int) := by omega
          have z3 : (k : Int) < (n : Int) := by omega
          obtain ⟨z, hz⟩ : ∃ z, L[k]? = some z := ⟨_, List.getElem?_eq_getElem (by have := HN.out.1; omega)⟩
          obtain ⟨gb, go, ea, f0, f1⟩ := cells_in (HN.out.2.2.1.kp KA) hz
          obtain ⟨gb', go', ea', y0, y1⟩ := cells_in (HN.out.2.2.1.kp KA) HY.out
          subst ea
          cases ea'
          have oz := HN.out.2.2.2 z (List.mem_of_getElem? hz)
          have oy := HN.out.2.2.2 y (List.mem_of_getElem? HY.out)
          have eqc := cneq oz oy
          have eqg := fun a b => cguard_ne a b z.2 y.2
          have HF : Hid (frst L (k + 1) y.2 = (frst L k y.2 && !decide (z.2 = y.2))) := frst_next hz
          obtain ⟨q, hq⟩ : ∃ q, decide (z.2 = y.2) = q := ⟨_, rfl⟩
          have HQ : Hid (decide (z.2 = y.2) = q) := hq
          obtain ⟨vz, hvz⟩ : ∃ vz, cK z.2 = vz := ⟨_, rfl⟩
          obtain ⟨vy, hvy⟩ : ∃ vy, cK y.2 = vy := ⟨_, rfl⟩
          rw [hvz, hvy] at eqc eqg
          rw [hvz] at f1
          rw [hvy] at y1
          rw [hq] at eqc
          obtain ⟨fb, hfb⟩ : ∃ fb, frst L k y.2 = fb := ⟨_, rfl⟩
          have HFB : Hid (frst L k y.2 = fb) := hfb
          rw [hfb]
          clear oz oy hz hq hvz hvy f0 y0 hfb KA
          cases fb with
          | false =>
            have HG : Hid (frst L (k + 1) y.2 = false) := by show _ = _; rw [HF.out, HFB.out]; rfl
            go_wp2_with fail
            go_quiet (fail)
            have K2 : Hid (Kp wr (wr.drewN nq)) := (Kp.refl wr).drewN nq
            go_wp2_with fail
            go_roundg (i + 1 - (k + 1))
            case measure => exact measW hkt hg2
            case rel => exact ⟨k + 1, by go_num, by rw [HG.out], hkt, Nat.le_refl _, HK.out.trans K2.out⟩
          | true =>
            have HG : Hid (frst L (k + 1) y.2 = !q) := by show _ = _; rw [HF.out, HFB.out, HQ.out]; rfl
            go_wp2_with fail
            go_quiet (fail)
            have K2 : Hid (Kp wr (wr.drewN nq)) := (Kp.refl wr).drewN nq
            go_wp2_with fail
            go_roundg (i + 1 - (k + 1))
            case measure => exact measW hkt hg2
            case rel => exact ⟨k + 1, by go_num, by rw [HG.out], hkt, Nat.le_refl _, HK.out.trans K2.out⟩
        · have : k = i := by omega
          subst this
          have z2 : ¬ (k : Int) < (k : Int) := by omega
          have HI2 : Hid (RA w wr Sg k u3) := by
            obtain ⟨M, g1, g2, k1⟩ := HI.out
            exact ⟨M, g1.kp HK.out, g2, k1.trans HK.out⟩
          obtain ⟨fb, hfb⟩ : ∃ fb, frst L k y.2 = fb := ⟨_, rfl⟩
          have HFB : Hid (frst L k y.2 = fb) := hfb
          rw [hfb]
          clear hfb HI HK KA hg2 hk hkt
          cases fb with
          | false =>
            have HR : Hid (RA w wr Sg (k + 1) u3) := by
              obtain ⟨M, g1, g2, k1⟩ := HI2.out
              have hd : dTo L k y.2 := frst_no HFB.out
              refine ⟨M, ?_, g2.skip, k1⟩
              rw [← HN.out.2.1] at g1 ⊢
              rw [dTo_there HY.out hd]; exact g1
            clear HI2
            go_wp2_with fail
            go_loopg [7, 8] 1 (fun g3 v7 v8 wx => v7 = .slice none 0 0 ∧ v8 = .int .i64 (k : Int) ∧ wx = wr)
            case atStart => exact ⟨rfl, rfl, rfl⟩
            case round =>
              obtain ⟨rfl, rfl, hw⟩ := hrel
              subst hw
              go_wp2_with fail
              go_roundg (n + 1 - (k + 1))
              case measure => exact measW hlt hg
              case rel => exact ⟨k + 1, by go_num, hlt, Nat.le_refl _, HR.out⟩
          | true =>
            obtain ⟨wq, hwq⟩ : ∃ wq, wq = wr := ⟨_, rfl⟩
            have HQW : Hid (RA w wq Sg k u3 ∧ Kp w wq ∧ gTo L k y.2 = []) := by
              rw [hwq]
              exact ⟨HI2.out, by obtain ⟨_, _, _, k⟩ := HI2.out; exact k, gTo_first HFB.out⟩
            have HS : Hid (AX LTfr wr wq.heap.size (.slice none 0 0) (gTo L k y.2) ∧ Kp wq wr) := by
              rw [HQW.out.2.2, hwq]; exact ⟨AX.nil _ _, Kp.refl _⟩
            clear HI2 hwq
            go_wp2_with fail
            go_loopg [7, 8] (n + 1) (fun g3 v7 v8 wx => ∃ j : Nat, v8 = .int .i64 (j : Int) ∧ k ≤ j ∧ j ≤ n ∧ n + 1 - j ≤ g3 ∧ Hid (AX LTfr wx wq.heap.size v7 (gTo L j y.2) ∧ Kp wq wx))
            case atStart => exact ⟨k, rfl, Nat.le_refl _, by omega, by omega, HS⟩
            case round =>
              clear HS c1
              obtain ⟨j, rfl, hkj, hj, hg3, HJ⟩ := hrel
              have KA : Kp w wr := HQW.out.2.1.trans HJ.out.2
              have c1 := K1.out wr KA
              by_cases hjt : j < n
              · have z3 : (j : Int) < (n : Int) := by omega
                obtain ⟨z, hz⟩ : ∃ z, L[j]? = some z := ⟨_, List.getElem?_eq_getElem (by have := HN.out.1; omega)⟩
                obtain ⟨gb, go, ea, f0, f1⟩ := cells_in (HN.out.2.2.1.kp KA) hz
                obtain ⟨gb', go', ea', y0, y1⟩ := cells_in (HN.out.2.2.1.kp KA) HY.out
                have HC : Hid (∀ wx, Kp w wx → wx.cell? ⟨gb, go + j * 2, none⟩ = some (.int .i64 (z.1 : Int))) := fun wx kx => by
                  obtain ⟨gb2, go2, ea2, f2, _⟩ := cells_in (HN.out.2.2.1.kp kx) hz
                  rw [ea] at ea2
                  cases ea2
                  exact f2
                subst ea
                cases ea'
                have oz := HN.out.2.2.2 z (List.mem_of_getElem? hz)
                have oy := HN.out.2.2.2 y (List.mem_of_getElem? HY.out)
                have eqc := ceql oz oy
                have eqg := fun a b => cguard a b z.2 y.2
                have HZ : Hid (L[j]? = some z) := hz
                obtain ⟨q, hq⟩ : ∃ q, decide (z.2 = y.2) = q := ⟨_, rfl⟩
                have HQ : Hid (decide (z.2 = y.2) = q) := hq
                obtain ⟨vz, hvz⟩ : ∃ vz, cK z.2 = vz := ⟨_, rfl⟩
                obtain ⟨vy, hvy⟩ : ∃ vy, cK y.2 = vy := ⟨_, rfl⟩
                rw [hvz, hvy] at eqc eqg
                rw [hvz] at f1
                rw [hvy] at y1
                rw [hq] at eqc
                obtain ⟨zz, hzz⟩ : ∃ zz, z.1 = zz := ⟨_, rfl⟩
                have HZZ : Hid (z.1 = zz) := hzz
                rw [hzz] at HC
                have hlg : (gTo L j y.2).length ≤ 12 := by have := gTo_len L j y.2; have := HN.out.1; omega
                obtain ⟨nb, cb, e7, _, _, _⟩ := HJ.out.1.form LTfr_ok
                subst e7
                clear oz oy hz hq hvz hvy f0 y0 hzz KA
                cases q with
                | false =>
                  have HG : Hid (gTo L (j + 1) y.2 = gTo L j y.2) := gTo_no HZ.out (of_decide_eq_false HQ.out)
                  obtain ⟨m, hm⟩ : ∃ m, (gTo L j y.2).length = m := ⟨_, rfl⟩
                  rw [hm] at HJ hlg ⊢
                  clear hm
                  go_wp2_with fail
                  go_quiet (fail)
                  have K2 : Hid (Kp wr (wr.drewN nq)) := (Kp.refl wr).drewN nq
                  go_wp2_with fail
                  go_roundg (n + 1 - (j + 1))
                  case measure => exact measW hjt hg3
                  case rel => exact ⟨j + 1, by go_num, by omega, hjt, Nat.le_refl _, by rw [HG.out]; exact HJ.out.1.kp K2.out, HJ.out.2.trans K2.out⟩
                | true =>
                  have HG : Hid (gTo L (j + 1) y.2 = gTo L j y.2 ++ [zz]) := by
                    rw [← HZZ.out]; exact gTo_yes HZ.out (of_decide_eq_true HQ.out)
                  obtain ⟨m, hm⟩ : ∃ m, (gTo L j y.2).length = m := ⟨_, rfl⟩
                  have HM : Hid ((gTo L j y.2).length = m) := hm
                  rw [hm] at HJ ⊢
                  clear hm
                  go_wp2_with fail
                  go_quiet (fail)
                  have K2 : Hid (Kp wr (wr.drewN nq)) := (Kp.refl wr).drewN nq
                  have A2 : Hid (AX LTfr (wr.drewN nq) wq.heap.size (.slice nb m cb) (gTo L j y.2) ∧ Kp wq (wr.drewN nq)) := ⟨HJ.out.1.kp K2.out, HJ.out.2.trans K2.out⟩
                  have KA := HQW.out.2.1.trans A2.out.2
                  have c2 := K1.out _ KA
                  have f2 := HC.out _ KA
                  clear c1 f1 y1 eqc eqg HJ K2 HC KA
                  generalize wr.drewN nq = w2 at *
                  have kt : Kp w2 (w2.alloc (.cells #[.int .i64 (zz : Int)] 3)) := (Kp.refl w2).alloc _
                  have hs : AS LTfr (w2.alloc (.cells #[.int .i64 (zz : Int)] 3)) (some ⟨w2.heap.size, 0, none⟩) [zz] := row_madew (T := LTfr) w2 zz
                  obtain ⟨na', n', cap', w4, r4, n4, ax4, fr4, kp4, _⟩ := (A2.out.1.kp kt).app LTfr_ok (by have := A2.out.2.size; simp; omega) hs (m := 1) (c := 1) rfl (fun c => by cases c) (by simp; omega) 46
                  have H4 : Hid (AX LTfr w4 wq.heap.size (.slice na' n' cap') (gTo L (j + 1) y.2) ∧ Kp wq w4) := ⟨by rw [HG.out]; exact ax4, kp4 wq (Nat.le_refl _) (A2.out.2.trans kt)⟩
                  clear kt hs n4 ax4 fr4 kp4 A2
                  repeat' (first | ((with_reducible refine wp_append_of r4 (.tmp 73) (.tmp 82) ?_ ?_ ?_ ?_ ?_); rfl; rfl; rfl; rfl) | go_values | go_skip | go_guarded | go_step | go_upon | go_back | (simp only []) | (go_values <;> (try go_simp)) | (go_ite <;> go_prune <;> (try go_simp)))
                  go_roundg (n + 1 - (j + 1))
                  case measure => exact measW hjt hg3
                  case rel => exact ⟨j + 1, by go_num, by omega, hjt, Nat.le_refl _, H4.out⟩
              · have z3 : ¬ (j : Int) < (n : Int) := by omega
                have hjn : j = n := by omega
                subst hjn
                obtain ⟨xs, hxs⟩ : ∃ xs, xs = gTo L j y.2 := ⟨_, rfl⟩
                have HX : Hid (xs = blF (mkD Sg 12 y.2)) := by
                  show xs = _
                  rw [hxs, HN.out.2.1]
                  exact gTo_all Sg y.2 (by rw [← HN.out.2.1, ← HN.out.1]; exact Nat.le_refl _)
                have HAX : Hid (AX LTfr wr w.heap.size u7 xs ∧ Kp wq wr) := ⟨by rw [hxs]; exact HJ.out.1.low HQW.out.2.1.size, HJ.out.2⟩
                have hD : Hid (dTo (inL Sg) (k + 1) = fun x => dTo (inL Sg) k x ∨ x = y.2) := dTo_next (by rw [← HN.out.2.1]; exact HY.out)
                clear HJ hxs
                by_cases hl1 : 1 < xs.length
                · obtain ⟨na2, cap2, eu, _, hna, _⟩ := HAX.out.1.form LTfr_ok
                  obtain ⟨g, rfl⟩ : ∃ g, na2 = some ⟨g, 0, none⟩ := by
                    rcases hna with ⟨_, _, c⟩ | ⟨g, q, _⟩
                    · rw [c] at hl1; simp at hl1
                    · exact ⟨g, q⟩
                  subst eu
                  obtain ⟨M, G0, D0, k0⟩ := HQW.out.1
                  obtain ⟨e, he⟩ : ∃ e : GE, e = ((g, xs.length, cap2), hdF xs) := ⟨_, rfl⟩
                  have ev : geV e = .slice (some ⟨g, 0, none⟩) xs.length cap2 := by rw [he]; rfl
                  have G3 : GrS wr w.heap.size u3 M (dTo (inL Sg) k) (mkD Sg 12) := G0.kp HAX.out.2
                  have kt : Kp wr (wr.alloc (.cells #[.slice (some ⟨g, 0, none⟩) xs.length cap2] 46)) := (Kp.refl wr).alloc _
                  have hfew := G3.few
                  have hs : AS LTge (wr.alloc (.cells #[.slice (some ⟨g, 0, none⟩) xs.length cap2] 46)) (some ⟨wr.heap.size, 0, none⟩) [e] := by
                    have := AS.made (T := LTge) wr [e]
                    rw [show ([e].flatMap LTge.enc).toArray = #[.slice (some ⟨g, 0, none⟩) xs.length cap2] from by rw [← ev]; rfl] at this
                    exact this
                  have KA := HQW.out.2.1.trans HAX.out.2
                  obtain ⟨na', n', cap', w4, r4, n4, ax4, fr4, kp4, _⟩ := (G3.kp kt).ax.app LTge_ok (by have := KA.size; simp; omega) hs (m := 1) (c := 1) rfl (fun c => by cases c) (by simp; omega) 49
                  have k4 : Kp w w4 := kp4 w (Nat.le_refl _) (KA.trans kt)
                  have hne : ∀ d', dTo (inL Sg) k d' → d' ≠ y.2 := fun d' ⟨z, hz, e⟩ c => by
                    rw [← HN.out.2.1] at hz
                    exact frst_yes HFB.out z hz (e.trans c)
                  have hh : e.2 = (y.1 : Int) := by
                    rw [he, HX.out]
                    have h1 := HY.out
                    have h2 := HFB.out
                    rw [HN.out.2.1] at h1 h2
                    exact hd_first h1 h2
                  have G4 := (G3.kp kt).more (mk := mkD Sg 12) (d := y.2) ax4 fr4 (by rw [← HX.out]; exact hl1) (by rw [ev, ← HX.out]; exact HAX.out.1.kp kt) (by rw [he, ← HX.out]) (fun d' h1 h2 => hd_apart (hne d' h1) (by rw [← HX.out]; exact hl1) h2)
                  rw [← hD.out] at G4
                  have H4 : Hid (RA w w4 Sg (k + 1) (.slice na' n' cap')) := ⟨M ++ [e], G4, D0.more (inL_rise Sg) (by rw [← HN.out.2.1]; exact HY.out) hh, k4⟩
                  have y1 : (1 : Int) < (xs.length : Int) := by omega
                  clear hna G0 D0 k0 G3 kt hfew hs KA n4 ax4 fr4 kp4 k4 hne hh G4 ev he
                  generalize xs.length = m at *
                  repeat' (first | ((with_reducible refine wp_append_of r4 (.tmp 87) (.tmp 89) ?_ ?_ ?_ ?_ ?_); rfl; rfl; rfl; rfl) | go_values | go_skip | go_guarded | go_step | go_upon | go_back | (simp only []) | (go_values <;> (try go_simp)) | (go_ite <;> go_prune <;> (try go_simp)))
                  go_roundg (j + 1 - (k + 1))
                  case measure => exact measW hlt hg
                  case rel => exact ⟨k + 1, by go_num, hlt, Nat.le_refl _, H4.out⟩
                · obtain ⟨na2, cap2, eu, _, _, _⟩ := HAX.out.1.form LTfr_ok
                  subst eu
                  have HR : Hid (RA w wr Sg (k + 1) u3) := by
                    obtain ⟨M, G0, D0, k0⟩ := HQW.out.1
                    have G3 := (G0.kp HAX.out.2).skip (d := y.2) (by rw [← HX.out]; exact hl1)
                    rw [← hD.out] at G3
                    exact ⟨M, G3, D0.skip, k0.trans HAX.out.2⟩
                  have y1 : ¬ (1 : Int) < (xs.length : Int) := by omega
                  generalize xs.length = m at *
                  go_wp2_with fail
                  go_roundg (j + 1 - (k + 1))
                  case measure => exact measW hlt hg
                  case rel => exact ⟨k + 1, by go_num, hlt, Nat.le_refl _, HR.out⟩
    · have z1 : ¬ (i : Int) < (n : Int) := by omega
      have hin : i = n := by omega
      subst hin
      clear c1
      have c1 := K1.out wr (by obtain ⟨_, _, _, k⟩ := HI.out; exact k)
      go_wp2_with fail
      go_ret
      obtain ⟨M, g1, g2, k1⟩ := HI.out
      exact ⟨_, rfl, M, _, g1, fun a b hd => dTo_all (by rw [← HN.out.2.1, ← HN.out.1]; exact Nat.le_refl _) (a, b) hd, g2.pw, k1⟩
end

end Go.Proofs.YtpjlmmiceiionaaDoor
