/- The document's rmap: List. -/
import Derived.Test.YtfpmakmemmnbkaaAJ
import Derived.Deep.CutBlock
import Derived.Deep.DeepCutAuto
import Derived.Deep.RegionHeld3
namespace Go.Proofs.Ytfpmakmemmnbkaa
open Go.RowKit Go.Sort Go.Shelf
set_option maxRecDepth 10000

theorem usT_take {T : List UC} {i : Nat} {u : UC} (h : T[i]? = some u) (f : Int) : usT (T.take (i + 1)) f = if f = u.1 then usT (T.take i) u.1 ++ [u.2] else usT (T.take i) f := by
  have e : T.take (i + 1) = T.take i ++ [(u.1, u.2)] := by
    rw [List.take_add_one, h]; rfl
  rw [e, usT_add]
section
variable {w w' : World} {q b : Nat} {v : Value} {T : List UC}
set_option maxHeartbeats 16000000 in
theorem ulist_any (h : RDU w q b v T) (hl : T.length ≤ 100000) (f : Int) :
    Calls Try.prog 16 #[.pointer (some ⟨q, 0, none⟩), .int .i64 f] w fun e w' => ∃ v, e = .returned v ∧ AX LTp w' w.heap.size v (srtP (usT T f)) ∧ Kp w w' := by
  obtain ⟨na, cap, rfl, _, _, _⟩ := h.ax.form okT_use
  have c0 := h.c0
  have HH : Hid (RDU w q b (.slice na T.length cap) T ∧ T.length ≤ 100000) := ⟨h, hl⟩
  have hql := h.lt
  obtain ⟨n, hn⟩ : ∃ n, n = T.length := ⟨_, rfl⟩
  rw [← hn] at c0
  have HN : Hid (n = T.length) := hn
  have z0 : (n : Int) ≤ 100000 := by omega
  obtain ⟨R, hR⟩ : ∃ R, R = srtP (usT T f) := ⟨_, rfl⟩
  rw [← hR]
  have HR : Hid (R = srtP (usT T f)) := hR
  clear h hl hn hR
  go_enter Try.func16, Try.ntmps16
  go_wp2_with fail
  go_loopg [5, 6] (n + 1) (fun gg v5 v6 wr => ∃ (i : Nat) (M : List PLc), v6 = .int .i64 (i : Int) ∧ i ≤ n ∧ n + 1 - i ≤ gg ∧ Hid (Kp w wr ∧ AX LTp wr w.heap.size v5 M ∧ M = srtP (usT (T.take i) f)))
  case atStart => exact ⟨0, [], rfl, by omega, by omega, Kp.refl _, AX.nil _ _, (List.length_eq_zero_iff.1 (srtP_len [])).symm⟩
  case round =>
    obtain ⟨i, M, rfl, hi, hg, HI⟩ := hrel
    have d0 : wr.cell? ⟨q, 0, none⟩ = some (.slice na n cap) := by rw [HI.out.1.cell (p := ⟨q, 0, none⟩) hql]; exact c0
    by_cases e : i < n
    · obtain ⟨y, hy⟩ : ∃ y, T[i]? = some y := ⟨_, List.getElem?_eq_getElem (by have := HN.out; omega)⟩
      obtain ⟨na', cap', ev, _, _, hc⟩ := HH.out.1.ax.form okT_use
      cases ev
      obtain ⟨g, rfl, hg2, _, hc⟩ := hc i y hy
      have e0 := hc 0 _ rfl
      have e1 := hc 1 _ rfl
      have e2 := hc 2 _ rfl
      rw [← HI.out.1.cell (p := ⟨g, _, none⟩) hg2] at e0 e1 e2
      simp only [show LTu.sz = 3 from rfl, Nat.add_zero] at e0 e1 e2
      have ut := usT_take hy f
      obtain ⟨yf, yg, yp⟩ := y
      have y1 : (i : Int) < n := by omega
      have z1 : (i : Int) ≤ 100000 := by omega
      by_cases c1 : yf = f
      · have y2 : (yf == f) = true := by simpa using c1
        have HU : Hid (usT (T.take (i + 1)) f = usT (T.take i) f ++ [(yg, yp)]) := by
          show _ = _
          rw [ut, if_pos c1.symm]
          show usT (T.take i) yf ++ _ = _
          rw [c1]
        have ml : M.length ≤ 100000 := by
          have := HI.out.2.2
          rw [this, srtP_len]
          have := usT_len (T.take i) f
          have := List.length_take_le i T
          omega
        obtain ⟨nm, cm, evm, hmc, hfm, _⟩ := HI.out.2.1.form okT_place
        subst evm
        have HM : Hid (M.length ≤ cm ∧ (nm = none → cm = 0) ∧ M.length ≤ 100000) := ⟨hmc, (fun e => by
          rcases hfm with ⟨_, q, _⟩ | ⟨g, q, _⟩
          · exact q
          · rw [e] at q; cases q), ml⟩
        clear hc ut hy c1 hmc hfm
        obtain ⟨mm, hmm⟩ : ∃ mm, mm = M.length := ⟨_, rfl⟩
        rw [← hmm]
        have HMM : Hid (mm = M.length) := hmm
        have z2 : (mm : Int) ≤ 100000 := by omega
        clear hmm ml
        go_wp2_with fail
        obtain ⟨wb, hwb⟩ : ∃ wb, wb = wr.alloc (.cells #[.int .i64 yg, .int .u64 yp] 31) := ⟨_, rfl⟩
        obtain ⟨bp, hbp⟩ : ∃ bp, bp = wr.heap.size := ⟨_, rfl⟩
        rw [← hwb, ← hbp]
        have kb : Kp wr wb := by rw [hwb]; exact (Kp.refl wr).alloc _
        have rb : wb.heap[bp]? = some (.cells #[.int .i64 yg, .int .u64 yp] 31 (0, 0)) := by rw [hwb, hbp]; exact heap_alloc_new wr _
        have KB : Aside (∀ v, Kp wb v → v.cell? ⟨bp, 0, none⟩ = some (.int .i64 yg) ∧ v.cell? ⟨bp, 1, none⟩ = some (.int .u64 yp)) := fun v k => by
          have hr := (k.block bp (Array.getElem?_eq_some_iff.1 rb).1).trans rb
          exact ⟨by rw [cell_of_row _ _ 0 _ _ _ hr]; rfl, by rw [cell_of_row _ _ 1 _ _ _ hr]; rfl⟩
        have HI2 : Hid (Kp w wb ∧ AX LTp wb w.heap.size (.slice nm M.length cm) M ∧ M = srtP (usT (T.take i) f)) := ⟨HI.out.1.trans kb, HI.out.2.1.kp kb, HI.out.2.2⟩
        have dq : Aside (∀ v, Kp wb v → v.cell? ⟨q, 0, none⟩ = some (.slice (some ⟨g, 0, none⟩) n cap)) := fun v k => by rw [(kb.trans k).cell (p := ⟨q, 0, none⟩) (Nat.lt_of_lt_of_le hql HI.out.1.size)]; exact d0
        clear HI kb rb hwb hbp e0 e1 e2 d0
        go_loopg [8] (mm + 1) (fun gg v8 wx => ∃ k : Nat, v8 = .int .i64 (k : Int) ∧ k ≤ mm ∧ k + 1 ≤ gg ∧ Hid (Kp wb wx ∧ ∀ j y, k ≤ j → M[j]? = some y → ltP (yg, yp) y))
        case atStart => exact ⟨mm, rfl, by omega, by omega, Kp.refl _, fun j y hj hy => by
          have := (List.getElem?_eq_some_iff.1 hy).1
          have := HMM.out
          omega⟩
        case round =>
          obtain ⟨k, rfl, hk, hgk, HK⟩ := hrel
          obtain ⟨p0, p1⟩ := KB.out _ HK.out.1
          by_cases ek : k = 0
          · have HX : Hid (Kp wb wr ∧ (∀ j y, k ≤ j → M[j]? = some y → ltP (yg, yp) y) ∧ (k = 0 ∨ ∃ y, M[k - 1]? = some y ∧ ¬ ltP (yg, yp) y)) := ⟨HK.out.1, HK.out.2, .inl ek⟩
            have y5 : decide ((0 : Int) < (k : Int)) = false := decide_eq_false (by omega)
            have y5' : decide (0 < k) = false := decide_eq_false (by omega)
            clear ek HK
            go_wp2_with fail
            go_quiet (fail)
            go_wp2_with fail
            obtain ⟨wd, hwd⟩ : ∃ wd, wd = wr.drewN nq := ⟨_, rfl⟩
            rw [← hwd]
            have kd : Kp wb wd := by rw [hwd]; exact HX.out.1.drewN _
            have hkm : k ≤ M.length := by have := HMM.out; omega
            have hmc := HM.out.1
            have src := (HI2.out.2.1.kp kd).src okT_place
            obtain ⟨na1, q1, q2, q3⟩ := part_hi okT_place nm mm cm k (by omega)
            obtain ⟨na2, s1, s2, s3⟩ := part_lo okT_place nm mm cm k hk
            change ∀ w, (Instr.slice 37 _ _ _ _).run Try.prog w = _ at q1
            change ∀ w, (Instr.slice 37 _ _ _ _).run Try.prog w = _ at s1
            have a1 := src.hi okT_place k q2 q3
            have a2 := src.lo okT_place k hmc s2 s3
            have zz1 : M.take k = [] → na1 = none → cm = 0 := fun _ e => HM.out.2.1 (part_nil q3 src e)
            have zz2 : M.drop k = [] → na2 = none → cm - k = 0 := fun _ e => by rw [HM.out.2.1 (part_nil2 s3 src e)]; omega
            have l1 : k = (M.take k).length := by rw [List.length_take]; omega
            have l2 : mm - k = (M.drop k).length := by rw [List.length_drop, HMM.out]
            have l3 : (M.take k).length + 1 + (M.drop k).length ≤ 1000000 := by have := HM.out.2.2; rw [← l1, ← l2]; omega
            have HS : Hid (M.take k ++ [(yg, yp)] ++ M.drop k = srtP (usT (T.take (i + 1)) f)) := by
              have hm := HI2.out.2.2
              have := ins_sort (x := (yg, yp)) hkm (by rw [hm]; exact srtP_rise _) HX.out.2.1 HX.out.2.2
              rw [HU.out]
              refine this.trans (srtP_like ?_)
              rw [hm]
              exact (srtP_perm _).append_right _
            obtain ⟨a6A, n6A, c6A, w6A, a7A, n7A, c7A, w7A, a8A, n8A, c8A, w8A, r6A, r7A, r8A, i8A⟩ := ins_A (W := wd.drew) okT_place (a1.kp (Kp.refl wd).drew) l1 zz1 (a2.kp (Kp.refl wd).drew) l2 zz2 (yg, yp) l3 37
            have r6A' : (Builtin.append_ #[37, 37] 37 #[.slice (some ⟨wd.heap.size, 0, none⟩) 0 0, .slice na1 k cm]).run Try.prog (wd.alloc (.cells #[] 31)).drew = .ok (.slice a6A n6A c6A) w6A := r6A
            have r7A' : (Builtin.append_ #[37, 37] 37 #[.slice a6A n6A c6A, .slice (some ⟨w6A.heap.size, 0, none⟩) 1 1]).run Try.prog (w6A.alloc (.cells #[.int .i64 yg, .int .u64 yp] 31)) = .ok (.slice a7A n7A c7A) w7A := r7A
            have r8A' : (Builtin.append_ #[37, 37] 37 #[.slice a7A n7A c7A, .slice na2 (mm - k) (cm - k)]).run Try.prog w7A = .ok (.slice a8A n8A c8A) w8A := r8A
            have FA : Hid (Kp w w8A ∧ AX LTp w8A w.heap.size (.slice a8A n8A c8A) (srtP (usT (T.take (i + 1)) f))) := by
              have kw : Kp w wd.drew := HI2.out.1.trans kd.drew
              refine ⟨kw.trans i8A.2.2.2, ?_⟩
              rw [← HS.out]
              exact i8A.1.low kw.size
            have K6A : Aside (Kp wb w6A) := kd.drew.trans i8A.2.1
            have K7A : Aside (Kp wb w7A) := kd.drew.trans i8A.2.2.1
            have K8A : Aside (Kp wb w8A) := kd.drew.trans i8A.2.2.2
            obtain ⟨a6B, n6B, c6B, w6B, a7B, n7B, c7B, w7B, a8B, n8B, c8B, w8B, r6B, r7B, r8B, i8B⟩ := ins_B (W := wd.drew) okT_place (a1.kp (Kp.refl wd).drew) l1 zz1 (a2.kp (Kp.refl wd).drew) l2 zz2 (yg, yp) l3 37
            have r6B' : (Builtin.append_ #[37, 37] 37 #[.slice (some ⟨wd.heap.size, 0, none⟩) 0 0, .slice na1 k cm]).run Try.prog ((wd.alloc (.cells #[] 31)).alloc (.cells #[.int .i64 yg, .int .u64 yp] 31)).drew = .ok (.slice a6B n6B c6B) w6B := r6B
            have r7B' : (Builtin.append_ #[37, 37] 37 #[.slice a6B n6B c6B, .slice (some ⟨wd.heap.size + 1, 0, none⟩) 1 1]).run Try.prog w6B = .ok (.slice a7B n7B c7B) w7B := r7B
            have r8B' : (Builtin.append_ #[37, 37] 37 #[.slice a7B n7B c7B, .slice na2 (mm - k) (cm - k)]).run Try.prog w7B = .ok (.slice a8B n8B c8B) w8B := r8B
            have FB : Hid (Kp w w8B ∧ AX LTp w8B w.heap.size (.slice a8B n8B c8B) (srtP (usT (T.take (i + 1)) f))) := by
              have kw : Kp w wd.drew := HI2.out.1.trans kd.drew
              refine ⟨kw.trans i8B.2.2.2, ?_⟩
              rw [← HS.out]
              exact i8B.1.low kw.size
            have K6B : Aside (Kp wb w6B) := kd.drew.trans i8B.2.1
            have K7B : Aside (Kp wb w7B) := kd.drew.trans i8B.2.2.1
            have K8B : Aside (Kp wb w8B) := kd.drew.trans i8B.2.2.2
            obtain ⟨a6C, n6C, c6C, w6C, a7C, n7C, c7C, w7C, a8C, n8C, c8C, w8C, r6C, r7C, r8C, i8C⟩ := ins_C (W := wd.drew) okT_place (a1.kp (Kp.refl wd).drew) l1 zz1 (a2.kp (Kp.refl wd).drew) l2 zz2 (yg, yp) l3 37
            have r6C' : (Builtin.append_ #[37, 37] 37 #[.slice (some ⟨wd.heap.size + 1, 0, none⟩) 0 0, .slice na1 k cm]).run Try.prog ((wd.alloc (.cells #[.int .i64 yg, .int .u64 yp] 31)).alloc (.cells #[] 31)).drew = .ok (.slice a6C n6C c6C) w6C := r6C
            have r7C' : (Builtin.append_ #[37, 37] 37 #[.slice a6C n6C c6C, .slice (some ⟨wd.heap.size, 0, none⟩) 1 1]).run Try.prog w6C = .ok (.slice a7C n7C c7C) w7C := r7C
            have r8C' : (Builtin.append_ #[37, 37] 37 #[.slice a7C n7C c7C, .slice na2 (mm - k) (cm - k)]).run Try.prog w7C = .ok (.slice a8C n8C c8C) w8C := r8C
            have FC : Hid (Kp w w8C ∧ AX LTp w8C w.heap.size (.slice a8C n8C c8C) (srtP (usT (T.take (i + 1)) f))) := by
              have kw : Kp w wd.drew := HI2.out.1.trans kd.drew
              refine ⟨kw.trans i8C.2.2.2, ?_⟩
              rw [← HS.out]
              exact i8C.1.low kw.size
            have K6C : Aside (Kp wb w6C) := kd.drew.trans i8C.2.1
            have K7C : Aside (Kp wb w7C) := kd.drew.trans i8C.2.2.1
            have K8C : Aside (Kp wb w8C) := kd.drew.trans i8C.2.2.2
            have KD : Aside (Kp wb wd) := kd
            clear hkm hmc src q2 q3 s2 s3 a1 a2 zz1 zz2 l1 l2 l3 HS r6A r7A r8A i8A r6B r7B r8B i8B r6C r7C r8C i8C kd hwd HX HM HU HI2 HMM dq
            go_region_held3 (fun v => v.cell? ⟨bp, 0, none⟩ = some (.int .i64 yg) ∧ v.cell? ⟨bp, 1, none⟩ = some (.int .u64 yp))
              (first | exact KB.out _ KD.out.drew | exact KB.out _ (KD.out.drew.alloc _) | exact KB.out _ ((KD.out.alloc _).drew) | exact KB.out _ ((KD.out.drew.alloc _).alloc _) | exact KB.out _ (((KD.out.alloc _).alloc _).drew) | exact KB.out _ K6A.out | exact KB.out _ (K6A.out.alloc _) | exact KB.out _ K7A.out | exact KB.out _ K8A.out | exact KB.out _ K6B.out | exact KB.out _ K7B.out | exact KB.out _ K8B.out | exact KB.out _ K6C.out | exact KB.out _ K7C.out | exact KB.out _ K8C.out)
              (first | ((with_reducible refine step_app_of r6A' ?_ (.tmp 75) (.tmp 78) ?_ ?_ ?_ ?_ ?_); rfl; rfl; rfl; rfl; rfl) | ((with_reducible refine step_app_of r6B' ?_ (.tmp 75) (.tmp 78) ?_ ?_ ?_ ?_ ?_); rfl; rfl; rfl; rfl; rfl) | ((with_reducible refine step_app_of r6C' ?_ (.tmp 75) (.tmp 78) ?_ ?_ ?_ ?_ ?_); rfl; rfl; rfl; rfl; rfl) | ((with_reducible refine step_app_of r7A' ?_ (.tmp 79) (.tmp 81) ?_ ?_ ?_ ?_ ?_); rfl; rfl; rfl; rfl; rfl) | ((with_reducible refine step_app_of r7B' ?_ (.tmp 79) (.tmp 81) ?_ ?_ ?_ ?_ ?_); rfl; rfl; rfl; rfl; rfl) | ((with_reducible refine step_app_of r7C' ?_ (.tmp 79) (.tmp 81) ?_ ?_ ?_ ?_ ?_); rfl; rfl; rfl; rfl; rfl) | ((with_reducible refine step_app_of r8A' ?_ (.tmp 82) (.tmp 85) ?_ ?_ ?_ ?_ ?_); rfl; rfl; rfl; rfl; rfl) | ((with_reducible refine step_app_of r8B' ?_ (.tmp 82) (.tmp 85) ?_ ?_ ?_ ?_ ?_); rfl; rfl; rfl; rfl; rfl) | ((with_reducible refine step_app_of r8C' ?_ (.tmp 82) (.tmp 85) ?_ ?_ ?_ ?_ ?_); rfl; rfl; rfl; rfl; rfl))
            all_goals
              clear r6A' r7A' r8A' r6B' r7B' r8B' r6C' r7C' r8C' q1 s1 K6A K7A K8A K6B K7B K8B K6C K7C K8C KB KD
              go_wp2_with fail
              go_roundg (n + 1 - (i + 1))
              case measure => exact meas_next e hg
              case rel => first | exact ⟨i + 1, _, by go_num, by omega, by omega, FA.out.1, FA.out.2, rfl⟩ | exact ⟨i + 1, _, by go_num, by omega, by omega, FB.out.1, FB.out.2, rfl⟩ | exact ⟨i + 1, _, by go_num, by omega, by omega, FC.out.1, FC.out.2, rfl⟩
          · obtain ⟨kk, hkk⟩ : ∃ kk, k = kk + 1 := ⟨k - 1, by omega⟩
            obtain ⟨a, ha⟩ : ∃ a, M[kk]? = some a := ⟨_, List.getElem?_eq_getElem (by have := HMM.out; omega)⟩
            obtain ⟨nm', cm', evm, _, _, hcm⟩ := (HI2.out.2.1.kp HK.out.1).form okT_place
            cases evm
            obtain ⟨gm, rfl, _, _, hcm⟩ := hcm kk a ha
            have a0 := hcm 0 _ rfl
            have a1 := hcm 1 _ rfl
            simp only [show LTp.sz = 2 from rfl, Nat.add_zero] at a0 a1
            clear hcm
            have y5 : decide ((0 : Int) < (k : Int)) = true := decide_eq_true (by omega)
            have y5' : decide (0 < k) = true := decide_eq_true (by omega)
            have y6 : IntKind.i64.wrap ((k : Int) - 1) = (kk : Int) := by rw [IntKind.wrap_i64]; omega
            have y7 : (kk : Int) < mm := by omega
            have nx : ltP (yg, yp) a → ∀ j y, kk ≤ j → M[j]? = some y → ltP (yg, yp) y := fun c j y hj hy => by
              by_cases ej : j = kk
              · rw [ej, ha] at hy; cases hy; exact c
              · exact HK.out.2 j y (by omega) hy
            have ex : ¬ ltP (yg, yp) a → k = 0 ∨ ∃ y, M[k - 1]? = some y ∧ ¬ ltP (yg, yp) y := fun c => .inr ⟨a, by rw [hkk]; exact ha, c⟩
            obtain ⟨ag, ap⟩ := a
            by_cases d1 : yg < ag
            · have HN2 : Hid (Kp wb wr ∧ ∀ j y, kk ≤ j → M[j]? = some y → ltP (yg, yp) y) := ⟨HK.out.1, nx (.inl d1)⟩
              have hk2 : kk ≤ mm ∧ kk + 1 ≤ gk ∧ kk + 1 < gk + 1 := by omega
              clear nx ex ha HK
              go_wp2_with fail
              go_quiet (fail)
              go_wp2_with fail
              go_roundg (kk + 1)
              case measure => omega
              case rel => exact ⟨kk, by first | rfl | go_num, hk2.1, Nat.le_refl _, HN2.out.1.drewN _, HN2.out.2⟩
            · have d1' : decide (yg < ag) = false := decide_eq_false d1
              by_cases d2 : ag = yg
              · have y8 : (ag == yg) = true := by simpa using d2
                by_cases d3 : yp < ap
                · have d3' : decide (yp < ap) = true := decide_eq_true d3
                  have HN2 : Hid (Kp wb wr ∧ ∀ j y, kk ≤ j → M[j]? = some y → ltP (yg, yp) y) := ⟨HK.out.1, nx (.inr ⟨d2.symm, d3⟩)⟩
                  have hk2 : kk ≤ mm ∧ kk + 1 ≤ gk ∧ kk + 1 < gk + 1 := by omega
                  clear nx ex ha HK d2 d1 d3
                  go_wp2_with fail
                  go_quiet (fail)
                  go_wp2_with fail
                  go_roundg (kk + 1)
                  case measure => omega
                  case rel => exact ⟨kk, by first | rfl | go_num, hk2.1, Nat.le_refl _, HN2.out.1.drewN _, HN2.out.2⟩
                · have d3' : decide (yp < ap) = false := decide_eq_false d3
                  have HX : Hid (Kp wb wr ∧ (∀ j y, k ≤ j → M[j]? = some y → ltP (yg, yp) y) ∧ (k = 0 ∨ ∃ y, M[k - 1]? = some y ∧ ¬ ltP (yg, yp) y)) := ⟨HK.out.1, HK.out.2, ex (by unfold ltP; omega)⟩
                  clear nx ex ha HK d2 d1 d3 ek hkk
                  go_wp2_with fail
                  go_quiet (fail)
                  go_wp2_with fail
                  clear a0 a1 d1' d3' y5 y5' y6 y7 y8
                  obtain ⟨wd, hwd⟩ : ∃ wd, wd = wr.drewN nq := ⟨_, rfl⟩
                  rw [← hwd]
                  have kd : Kp wb wd := by rw [hwd]; exact HX.out.1.drewN _
                  have hkm : k ≤ M.length := by have := HMM.out; omega
                  have hmc := HM.out.1
                  have src := (HI2.out.2.1.kp kd).src okT_place
                  obtain ⟨na1, q1, q2, q3⟩ := part_hi okT_place (some ⟨gm, 0, none⟩) mm cm k (by omega)
                  obtain ⟨na2, s1, s2, s3⟩ := part_lo okT_place (some ⟨gm, 0, none⟩) mm cm k hk
                  change ∀ w, (Instr.slice 37 _ _ _ _).run Try.prog w = _ at q1
                  change ∀ w, (Instr.slice 37 _ _ _ _).run Try.prog w = _ at s1
                  have a1 := src.hi okT_place k q2 q3
                  have a2 := src.lo okT_place k hmc s2 s3
                  have zz1 : M.take k = [] → na1 = none → cm = 0 := fun _ e => HM.out.2.1 (part_nil q3 src e)
                  have zz2 : M.drop k = [] → na2 = none → cm - k = 0 := fun _ e => by rw [HM.out.2.1 (part_nil2 s3 src e)]; omega
                  have l1 : k = (M.take k).length := by rw [List.length_take]; omega
                  have l2 : mm - k = (M.drop k).length := by rw [List.length_drop, HMM.out]
                  have l3 : (M.take k).length + 1 + (M.drop k).length ≤ 1000000 := by have := HM.out.2.2; rw [← l1, ← l2]; omega
                  have HS : Hid (M.take k ++ [(yg, yp)] ++ M.drop k = srtP (usT (T.take (i + 1)) f)) := by
                    have hm := HI2.out.2.2
                    have := ins_sort (x := (yg, yp)) hkm (by rw [hm]; exact srtP_rise _) HX.out.2.1 HX.out.2.2
                    rw [HU.out]
                    refine this.trans (srtP_like ?_)
                    rw [hm]
                    exact (srtP_perm _).append_right _
                  obtain ⟨a6A, n6A, c6A, w6A, a7A, n7A, c7A, w7A, a8A, n8A, c8A, w8A, r6A, r7A, r8A, i8A⟩ := ins_A (W := wd.drew) okT_place (a1.kp (Kp.refl wd).drew) l1 zz1 (a2.kp (Kp.refl wd).drew) l2 zz2 (yg, yp) l3 37
                  have r6A' : (Builtin.append_ #[37, 37] 37 #[.slice (some ⟨wd.heap.size, 0, none⟩) 0 0, .slice na1 k cm]).run Try.prog (wd.alloc (.cells #[] 31)).drew = .ok (.slice a6A n6A c6A) w6A := r6A
                  have r7A' : (Builtin.append_ #[37, 37] 37 #[.slice a6A n6A c6A, .slice (some ⟨w6A.heap.size, 0, none⟩) 1 1]).run Try.prog (w6A.alloc (.cells #[.int .i64 yg, .int .u64 yp] 31)) = .ok (.slice a7A n7A c7A) w7A := r7A
                  have r8A' : (Builtin.append_ #[37, 37] 37 #[.slice a7A n7A c7A, .slice na2 (mm - k) (cm - k)]).run Try.prog w7A = .ok (.slice a8A n8A c8A) w8A := r8A
                  have FA : Hid (Kp w w8A ∧ AX LTp w8A w.heap.size (.slice a8A n8A c8A) (srtP (usT (T.take (i + 1)) f))) := by
                    have kw : Kp w wd.drew := HI2.out.1.trans kd.drew
                    refine ⟨kw.trans i8A.2.2.2, ?_⟩
                    rw [← HS.out]
                    exact i8A.1.low kw.size
                  have K6A : Aside (Kp wb w6A) := kd.drew.trans i8A.2.1
                  have K7A : Aside (Kp wb w7A) := kd.drew.trans i8A.2.2.1
                  have K8A : Aside (Kp wb w8A) := kd.drew.trans i8A.2.2.2
                  obtain ⟨a6B, n6B, c6B, w6B, a7B, n7B, c7B, w7B, a8B, n8B, c8B, w8B, r6B, r7B, r8B, i8B⟩ := ins_B (W := wd.drew) okT_place (a1.kp (Kp.refl wd).drew) l1 zz1 (a2.kp (Kp.refl wd).drew) l2 zz2 (yg, yp) l3 37
                  have r6B' : (Builtin.append_ #[37, 37] 37 #[.slice (some ⟨wd.heap.size, 0, none⟩) 0 0, .slice na1 k cm]).run Try.prog ((wd.alloc (.cells #[] 31)).alloc (.cells #[.int .i64 yg, .int .u64 yp] 31)).drew = .ok (.slice a6B n6B c6B) w6B := r6B
                  have r7B' : (Builtin.append_ #[37, 37] 37 #[.slice a6B n6B c6B, .slice (some ⟨wd.heap.size + 1, 0, none⟩) 1 1]).run Try.prog w6B = .ok (.slice a7B n7B c7B) w7B := r7B
                  have r8B' : (Builtin.append_ #[37, 37] 37 #[.slice a7B n7B c7B, .slice na2 (mm - k) (cm - k)]).run Try.prog w7B = .ok (.slice a8B n8B c8B) w8B := r8B
                  have FB : Hid (Kp w w8B ∧ AX LTp w8B w.heap.size (.slice a8B n8B c8B) (srtP (usT (T.take (i + 1)) f))) := by
                    have kw : Kp w wd.drew := HI2.out.1.trans kd.drew
                    refine ⟨kw.trans i8B.2.2.2, ?_⟩
                    rw [← HS.out]
                    exact i8B.1.low kw.size
                  have K6B : Aside (Kp wb w6B) := kd.drew.trans i8B.2.1
                  have K7B : Aside (Kp wb w7B) := kd.drew.trans i8B.2.2.1
                  have K8B : Aside (Kp wb w8B) := kd.drew.trans i8B.2.2.2
                  obtain ⟨a6C, n6C, c6C, w6C, a7C, n7C, c7C, w7C, a8C, n8C, c8C, w8C, r6C, r7C, r8C, i8C⟩ := ins_C (W := wd.drew) okT_place (a1.kp (Kp.refl wd).drew) l1 zz1 (a2.kp (Kp.refl wd).drew) l2 zz2 (yg, yp) l3 37
                  have r6C' : (Builtin.append_ #[37, 37] 37 #[.slice (some ⟨wd.heap.size + 1, 0, none⟩) 0 0, .slice na1 k cm]).run Try.prog ((wd.alloc (.cells #[.int .i64 yg, .int .u64 yp] 31)).alloc (.cells #[] 31)).drew = .ok (.slice a6C n6C c6C) w6C := r6C
                  have r7C' : (Builtin.append_ #[37, 37] 37 #[.slice a6C n6C c6C, .slice (some ⟨wd.heap.size, 0, none⟩) 1 1]).run Try.prog w6C = .ok (.slice a7C n7C c7C) w7C := r7C
                  have r8C' : (Builtin.append_ #[37, 37] 37 #[.slice a7C n7C c7C, .slice na2 (mm - k) (cm - k)]).run Try.prog w7C = .ok (.slice a8C n8C c8C) w8C := r8C
                  have FC : Hid (Kp w w8C ∧ AX LTp w8C w.heap.size (.slice a8C n8C c8C) (srtP (usT (T.take (i + 1)) f))) := by
                    have kw : Kp w wd.drew := HI2.out.1.trans kd.drew
                    refine ⟨kw.trans i8C.2.2.2, ?_⟩
                    rw [← HS.out]
                    exact i8C.1.low kw.size
                  have K6C : Aside (Kp wb w6C) := kd.drew.trans i8C.2.1
                  have K7C : Aside (Kp wb w7C) := kd.drew.trans i8C.2.2.1
                  have K8C : Aside (Kp wb w8C) := kd.drew.trans i8C.2.2.2
                  have KD : Aside (Kp wb wd) := kd
                  clear hkm hmc src q2 q3 s2 s3 a1 a2 zz1 zz2 l1 l2 l3 HS r6A r7A r8A i8A r6B r7B r8B i8B r6C r7C r8C i8C kd hwd HX HM HU HI2 HMM dq
                  go_region_held3 (fun v => v.cell? ⟨bp, 0, none⟩ = some (.int .i64 yg) ∧ v.cell? ⟨bp, 1, none⟩ = some (.int .u64 yp))
                    (first | exact KB.out _ KD.out.drew | exact KB.out _ (KD.out.drew.alloc _) | exact KB.out _ ((KD.out.alloc _).drew) | exact KB.out _ ((KD.out.drew.alloc _).alloc _) | exact KB.out _ (((KD.out.alloc _).alloc _).drew) | exact KB.out _ K6A.out | exact KB.out _ (K6A.out.alloc _) | exact KB.out _ K7A.out | exact KB.out _ K8A.out | exact KB.out _ K6B.out | exact KB.out _ K7B.out | exact KB.out _ K8B.out | exact KB.out _ K6C.out | exact KB.out _ K7C.out | exact KB.out _ K8C.out)
                    (first | ((with_reducible refine step_app_of r6A' ?_ (.tmp 75) (.tmp 78) ?_ ?_ ?_ ?_ ?_); rfl; rfl; rfl; rfl; rfl) | ((with_reducible refine step_app_of r6B' ?_ (.tmp 75) (.tmp 78) ?_ ?_ ?_ ?_ ?_); rfl; rfl; rfl; rfl; rfl) | ((with_reducible refine step_app_of r6C' ?_ (.tmp 75) (.tmp 78) ?_ ?_ ?_ ?_ ?_); rfl; rfl; rfl; rfl; rfl) | ((with_reducible refine step_app_of r7A' ?_ (.tmp 79) (.tmp 81) ?_ ?_ ?_ ?_ ?_); rfl; rfl; rfl; rfl; rfl) | ((with_reducible refine step_app_of r7B' ?_ (.tmp 79) (.tmp 81) ?_ ?_ ?_ ?_ ?_); rfl; rfl; rfl; rfl; rfl) | ((with_reducible refine step_app_of r7C' ?_ (.tmp 79) (.tmp 81) ?_ ?_ ?_ ?_ ?_); rfl; rfl; rfl; rfl; rfl) | ((with_reducible refine step_app_of r8A' ?_ (.tmp 82) (.tmp 85) ?_ ?_ ?_ ?_ ?_); rfl; rfl; rfl; rfl; rfl) | ((with_reducible refine step_app_of r8B' ?_ (.tmp 82) (.tmp 85) ?_ ?_ ?_ ?_ ?_); rfl; rfl; rfl; rfl; rfl) | ((with_reducible refine step_app_of r8C' ?_ (.tmp 82) (.tmp 85) ?_ ?_ ?_ ?_ ?_); rfl; rfl; rfl; rfl; rfl))
                  all_goals
                    clear r6A' r7A' r8A' r6B' r7B' r8B' r6C' r7C' r8C' q1 s1 K6A K7A K8A K6B K7B K8B K6C K7C K8C KB KD
                    go_wp2_with fail
                    go_roundg (n + 1 - (i + 1))
                    case measure => exact meas_next e hg
                    case rel => first | exact ⟨i + 1, _, by go_num, by omega, by omega, FA.out.1, FA.out.2, rfl⟩ | exact ⟨i + 1, _, by go_num, by omega, by omega, FB.out.1, FB.out.2, rfl⟩ | exact ⟨i + 1, _, by go_num, by omega, by omega, FC.out.1, FC.out.2, rfl⟩
              · have y8 : (ag == yg) = false := by simpa using d2
                have HX : Hid (Kp wb wr ∧ (∀ j y, k ≤ j → M[j]? = some y → ltP (yg, yp) y) ∧ (k = 0 ∨ ∃ y, M[k - 1]? = some y ∧ ¬ ltP (yg, yp) y)) := ⟨HK.out.1, HK.out.2, ex (by unfold ltP; omega)⟩
                clear nx ex ha HK d2 d1 ek hkk
                go_wp2_with fail
                go_quiet (fail)
                go_wp2_with fail
                clear a0 a1 d1' y5 y5' y6 y7 y8
                obtain ⟨wd, hwd⟩ : ∃ wd, wd = wr.drewN nq := ⟨_, rfl⟩
                rw [← hwd]
                have kd : Kp wb wd := by rw [hwd]; exact HX.out.1.drewN _
                have hkm : k ≤ M.length := by have := HMM.out; omega
                have hmc := HM.out.1
                have src := (HI2.out.2.1.kp kd).src okT_place
                obtain ⟨na1, q1, q2, q3⟩ := part_hi okT_place (some ⟨gm, 0, none⟩) mm cm k (by omega)
                obtain ⟨na2, s1, s2, s3⟩ := part_lo okT_place (some ⟨gm, 0, none⟩) mm cm k hk
                change ∀ w, (Instr.slice 37 _ _ _ _).run Try.prog w = _ at q1
                change ∀ w, (Instr.slice 37 _ _ _ _).run Try.prog w = _ at s1
                have a1 := src.hi okT_place k q2 q3
                have a2 := src.lo okT_place k hmc s2 s3
                have zz1 : M.take k = [] → na1 = none → cm = 0 := fun _ e => HM.out.2.1 (part_nil q3 src e)
                have zz2 : M.drop k = [] → na2 = none → cm - k = 0 := fun _ e => by rw [HM.out.2.1 (part_nil2 s3 src e)]; omega
                have l1 : k = (M.take k).length := by rw [List.length_take]; omega
                have l2 : mm - k = (M.drop k).length := by rw [List.length_drop, HMM.out]
                have l3 : (M.take k).length + 1 + (M.drop k).length ≤ 1000000 := by have := HM.out.2.2; rw [← l1, ← l2]; omega
                have HS : Hid (M.take k ++ [(yg, yp)] ++ M.drop k = srtP (usT (T.take (i + 1)) f)) := by
                  have hm := HI2.out.2.2
                  have := ins_sort (x := (yg, yp)) hkm (by rw [hm]; exact srtP_rise _) HX.out.2.1 HX.out.2.2
                  rw [HU.out]
                  refine this.trans (srtP_like ?_)
                  rw [hm]
                  exact (srtP_perm _).append_right _
                obtain ⟨a6A, n6A, c6A, w6A, a7A, n7A, c7A, w7A, a8A, n8A, c8A, w8A, r6A, r7A, r8A, i8A⟩ := ins_A (W := wd.drew) okT_place (a1.kp (Kp.refl wd).drew) l1 zz1 (a2.kp (Kp.refl wd).drew) l2 zz2 (yg, yp) l3 37
                have r6A' : (Builtin.append_ #[37, 37] 37 #[.slice (some ⟨wd.heap.size, 0, none⟩) 0 0, .slice na1 k cm]).run Try.prog (wd.alloc (.cells #[] 31)).drew = .ok (.slice a6A n6A c6A) w6A := r6A
                have r7A' : (Builtin.append_ #[37, 37] 37 #[.slice a6A n6A c6A, .slice (some ⟨w6A.heap.size, 0, none⟩) 1 1]).run Try.prog (w6A.alloc (.cells #[.int .i64 yg, .int .u64 yp] 31)) = .ok (.slice a7A n7A c7A) w7A := r7A
                have r8A' : (Builtin.append_ #[37, 37] 37 #[.slice a7A n7A c7A, .slice na2 (mm - k) (cm - k)]).run Try.prog w7A = .ok (.slice a8A n8A c8A) w8A := r8A
                have FA : Hid (Kp w w8A ∧ AX LTp w8A w.heap.size (.slice a8A n8A c8A) (srtP (usT (T.take (i + 1)) f))) := by
                  have kw : Kp w wd.drew := HI2.out.1.trans kd.drew
                  refine ⟨kw.trans i8A.2.2.2, ?_⟩
                  rw [← HS.out]
                  exact i8A.1.low kw.size
                have K6A : Aside (Kp wb w6A) := kd.drew.trans i8A.2.1
                have K7A : Aside (Kp wb w7A) := kd.drew.trans i8A.2.2.1
                have K8A : Aside (Kp wb w8A) := kd.drew.trans i8A.2.2.2
                obtain ⟨a6B, n6B, c6B, w6B, a7B, n7B, c7B, w7B, a8B, n8B, c8B, w8B, r6B, r7B, r8B, i8B⟩ := ins_B (W := wd.drew) okT_place (a1.kp (Kp.refl wd).drew) l1 zz1 (a2.kp (Kp.refl wd).drew) l2 zz2 (yg, yp) l3 37
                have r6B' : (Builtin.append_ #[37, 37] 37 #[.slice (some ⟨wd.heap.size, 0, none⟩) 0 0, .slice na1 k cm]).run Try.prog ((wd.alloc (.cells #[] 31)).alloc (.cells #[.int .i64 yg, .int .u64 yp] 31)).drew = .ok (.slice a6B n6B c6B) w6B := r6B
                have r7B' : (Builtin.append_ #[37, 37] 37 #[.slice a6B n6B c6B, .slice (some ⟨wd.heap.size + 1, 0, none⟩) 1 1]).run Try.prog w6B = .ok (.slice a7B n7B c7B) w7B := r7B
                have r8B' : (Builtin.append_ #[37, 37] 37 #[.slice a7B n7B c7B, .slice na2 (mm - k) (cm - k)]).run Try.prog w7B = .ok (.slice a8B n8B c8B) w8B := r8B
                have FB : Hid (Kp w w8B ∧ AX LTp w8B w.heap.size (.slice a8B n8B c8B) (srtP (usT (T.take (i + 1)) f))) := by
                  have kw : Kp w wd.drew := HI2.out.1.trans kd.drew
                  refine ⟨kw.trans i8B.2.2.2, ?_⟩
                  rw [← HS.out]
                  exact i8B.1.low kw.size
                have K6B : Aside (Kp wb w6B) := kd.drew.trans i8B.2.1
                have K7B : Aside (Kp wb w7B) := kd.drew.trans i8B.2.2.1
                have K8B : Aside (Kp wb w8B) := kd.drew.trans i8B.2.2.2
                obtain ⟨a6C, n6C, c6C, w6C, a7C, n7C, c7C, w7C, a8C, n8C, c8C, w8C, r6C, r7C, r8C, i8C⟩ := ins_C (W := wd.drew) okT_place (a1.kp (Kp.refl wd).drew) l1 zz1 (a2.kp (Kp.refl wd).drew) l2 zz2 (yg, yp) l3 37
                have r6C' : (Builtin.append_ #[37, 37] 37 #[.slice (some ⟨wd.heap.size + 1, 0, none⟩) 0 0, .slice na1 k cm]).run Try.prog ((wd.alloc (.cells #[.int .i64 yg, .int .u64 yp] 31)).alloc (.cells #[] 31)).drew = .ok (.slice a6C n6C c6C) w6C := r6C
                have r7C' : (Builtin.append_ #[37, 37] 37 #[.slice a6C n6C c6C, .slice (some ⟨wd.heap.size, 0, none⟩) 1 1]).run Try.prog w6C = .ok (.slice a7C n7C c7C) w7C := r7C
                have r8C' : (Builtin.append_ #[37, 37] 37 #[.slice a7C n7C c7C, .slice na2 (mm - k) (cm - k)]).run Try.prog w7C = .ok (.slice a8C n8C c8C) w8C := r8C
                have FC : Hid (Kp w w8C ∧ AX LTp w8C w.heap.size (.slice a8C n8C c8C) (srtP (usT (T.take (i + 1)) f))) := by
                  have kw : Kp w wd.drew := HI2.out.1.trans kd.drew
                  refine ⟨kw.trans i8C.2.2.2, ?_⟩
                  rw [← HS.out]
                  exact i8C.1.low kw.size
                have K6C : Aside (Kp wb w6C) := kd.drew.trans i8C.2.1
                have K7C : Aside (Kp wb w7C) := kd.drew.trans i8C.2.2.1
                have K8C : Aside (Kp wb w8C) := kd.drew.trans i8C.2.2.2
                have KD : Aside (Kp wb wd) := kd
                clear hkm hmc src q2 q3 s2 s3 a1 a2 zz1 zz2 l1 l2 l3 HS r6A r7A r8A i8A r6B r7B r8B i8B r6C r7C r8C i8C kd hwd HX HM HU HI2 HMM dq
                go_region_held3 (fun v => v.cell? ⟨bp, 0, none⟩ = some (.int .i64 yg) ∧ v.cell? ⟨bp, 1, none⟩ = some (.int .u64 yp))
                  (first | exact KB.out _ KD.out.drew | exact KB.out _ (KD.out.drew.alloc _) | exact KB.out _ ((KD.out.alloc _).drew) | exact KB.out _ ((KD.out.drew.alloc _).alloc _) | exact KB.out _ (((KD.out.alloc _).alloc _).drew) | exact KB.out _ K6A.out | exact KB.out _ (K6A.out.alloc _) | exact KB.out _ K7A.out | exact KB.out _ K8A.out | exact KB.out _ K6B.out | exact KB.out _ K7B.out | exact KB.out _ K8B.out | exact KB.out _ K6C.out | exact KB.out _ K7C.out | exact KB.out _ K8C.out)
                  (first | ((with_reducible refine step_app_of r6A' ?_ (.tmp 75) (.tmp 78) ?_ ?_ ?_ ?_ ?_); rfl; rfl; rfl; rfl; rfl) | ((with_reducible refine step_app_of r6B' ?_ (.tmp 75) (.tmp 78) ?_ ?_ ?_ ?_ ?_); rfl; rfl; rfl; rfl; rfl) | ((with_reducible refine step_app_of r6C' ?_ (.tmp 75) (.tmp 78) ?_ ?_ ?_ ?_ ?_); rfl; rfl; rfl; rfl; rfl) | ((with_reducible refine step_app_of r7A' ?_ (.tmp 79) (.tmp 81) ?_ ?_ ?_ ?_ ?_); rfl; rfl; rfl; rfl; rfl) | ((with_reducible refine step_app_of r7B' ?_ (.tmp 79) (.tmp 81) ?_ ?_ ?_ ?_ ?_); rfl; rfl; rfl; rfl; rfl) | ((with_reducible refine step_app_of r7C' ?_ (.tmp 79) (.tmp 81) ?_ ?_ ?_ ?_ ?_); rfl; rfl; rfl; rfl; rfl) | ((with_reducible refine step_app_of r8A' ?_ (.tmp 82) (.tmp 85) ?_ ?_ ?_ ?_ ?_); rfl; rfl; rfl; rfl; rfl) | ((with_reducible refine step_app_of r8B' ?_ (.tmp 82) (.tmp 85) ?_ ?_ ?_ ?_ ?_); rfl; rfl; rfl; rfl; rfl) | ((with_reducible refine step_app_of r8C' ?_ (.tmp 82) (.tmp 85) ?_ ?_ ?_ ?_ ?_); rfl; rfl; rfl; rfl; rfl))
                all_goals
                  clear r6A' r7A' r8A' r6B' r7B' r8B' r6C' r7C' r8C' q1 s1 K6A K7A K8A K6B K7B K8B K6C K7C K8C KB KD
                  go_wp2_with fail
                  go_roundg (n + 1 - (i + 1))
                  case measure => exact meas_next e hg
                  case rel => first | exact ⟨i + 1, _, by go_num, by omega, by omega, FA.out.1, FA.out.2, rfl⟩ | exact ⟨i + 1, _, by go_num, by omega, by omega, FB.out.1, FB.out.2, rfl⟩ | exact ⟨i + 1, _, by go_num, by omega, by omega, FC.out.1, FC.out.2, rfl⟩
      · have y2 : (yf == f) = false := by simpa using c1
        have HU : Hid (usT (T.take (i + 1)) f = usT (T.take i) f) := by
          show _ = _
          rw [ut, if_neg (fun q => c1 q.symm)]
        clear hc ut hy c1
        go_wp2_with fail
        go_roundg (n + 1 - (i + 1))
        case measure => exact meas_next e hg
        case rel => exact ⟨i + 1, M, by go_num, by omega, by omega, HI.out.1, HI.out.2.1, by rw [HU.out]; exact HI.out.2.2⟩
    · have y1 : ¬ (i : Int) < n := by omega
      have ei : i = n := by omega
      have E : Hid (AX LTp wr w.heap.size u5 R ∧ Kp w wr) := by
        refine ⟨?_, HI.out.1⟩
        have h2 := HI.out.2.1
        rw [HI.out.2.2, ei, HN.out, List.take_length, ← HR.out] at h2
        exact h2
      clear HI
      go_wp2_with fail
      go_ret
      exact ⟨_, rfl, E.out⟩
end

end Go.Proofs.Ytfpmakmemmnbkaa
