/- The document's walk: Give. -/
import Derived.Test.YtclcickhgoiooaaZE
import Derived.Test.YtclcickhgoiooaaSB
import Derived.Test.YtclcickhgoiooaaJF
import Derived.Test.YtclcickhgoiooaaED
import Derived.Test.YtclcickhgoiooaaKB
import Derived.Deep.RegionLaw
import Derived.Deep.DeepCutAuto
import Derived.Deep.CutBlock
namespace Go.Proofs.Ytclcickhgoiooaa
open Go.RowKit
set_option maxRecDepth 10000

section
variable {W w w' : World} {q : Nat} {s : Int} {t u : Nat} {L : List SV} {k : Int} {over : Bool} {v : Value}
theorem RWk.set (h : RWk W q s t u L k over v w) (j : Nat) (y : Value) {t' : Nat} {k' : Int} {over' : Bool} (hr : (w.setCell ⟨q, j, none⟩ y).heap[q]? = some (.cells #[.int .i64 s, .int .u64 (t' : Int), .int .u64 (u : Int), v, .int .i64 k', .bool over'] 90)) : RWk W q s t' u L k' over' v (w.setCell ⟨q, j, none⟩ y) :=
  ⟨h.kp.set _ _ h.lo, h.lo, hr, OL.fr h.own ((Fr.refl (· = q) w).set ⟨q, j, none⟩ y rfl) (fun g e e' => by have := h.fo g e; omega), h.fo⟩
theorem RWk.set1 (h : RWk W q s t u L k over v w) (t' : Nat) : RWk W q s t' u L k over v (w.setCell ⟨q, 1, none⟩ (.int .u64 (t' : Int))) := h.set 1 _ (heap_setCell_same w q 1 _ _ _ h.row)
theorem RWk.set4 (h : RWk W q s t u L k over v w) (k' : Int) : RWk W q s t u L k' over v (w.setCell ⟨q, 4, none⟩ (.int .i64 k')) := h.set 4 _ (heap_setCell_same w q 4 _ _ _ h.row)
theorem RWk.set5 (h : RWk W q s t u L k over v w) (o' : Bool) : RWk W q s t u L k o' v (w.setCell ⟨q, 5, none⟩ (.bool o')) := h.set 5 _ (heap_setCell_same w q 5 _ _ _ h.row)
/-- The list is one step longer. -/
theorem RWk.snoc (h : RWk W q s t u L k over v w) (hL : L.length ≤ 100) (x : SV) (c : Nat) (hc : w.heap[c]? = some (.cells (encS x).toArray 95)) :
    ∃ v' w1, (Builtin.append_ #[88, 88] 88 #[v, .slice (some ⟨c, 0, none⟩) 1 1]).run Try.prog w = .ok v' w1 ∧ RWk W q s t u (L ++ [x]) k over v' (w1.setCell ⟨q, 3, none⟩ v') ∧ Fr (fun g => v.ownBlock = some g) w w1 ∧ w1.cell? ⟨q, 3, none⟩ = some v ∧ w1.frozen? ⟨q, 3, none⟩ = false ∧ (∃ na n c, v' = .slice na n c) := by
  obtain ⟨i, hi, hz, hsz, hb⟩ : ∃ i : TypeInfo, Try.prog.info? 95 = some i ∧ i.zero = some (.agg #[.int .i64 0, .int .u64 0, .int .u64 0, .int .i64 0, .int .u64 0, .bool false, .bool false, .bool false, .int .i64 0]) ∧ i.size = 9 ∧ i.bytes ≤ 10000 := ⟨_, rfl, rfl, rfl, by decide⟩
  obtain ⟨v', w1, h1, h2, h3, h4⟩ := OL.append (P := Try.prog) encS_ok Try.underlying88 hi hz hsz rfl rfl h.own [x] (some ⟨c, 0, none⟩) 1 1 rfl (.inr ⟨c, 0, rfl, fun j u hu => by
    rw [cell_of_row _ _ (0 + j) _ _ _ hc]
    simpa using hu⟩) (by simp; omega) hb 88
  have f : Fr (fun g => v.ownBlock = some g) w w1 := Fr.grown h3 (fun g e => e)
  have lq := lt_of_row h.row
  have row1 : w1.heap[q]? = some (.cells #[.int .i64 s, .int .u64 (t : Int), .int .u64 (u : Int), v, .int .i64 k, .bool over] 90) := (f.block _ lq (fun e => by have := h.fo q e; omega)).trans h.row
  have fo : ∀ g, v'.ownBlock = some g → q < g := fun g e => by
    rcases h4 with h4 | h4
    · exact h.fo g (h4.symm.trans e)
    · rw [h4] at e; cases e; exact lq
  have lo := h.lo
  refine ⟨v', w1, h1, ⟨(f.kp h.kp (fun i e => by have := h.fo i e; omega)).set _ _ lo, lo, heap_setCell_same w1 q 3 _ _ v' row1, OL.fr h2 ((Fr.refl (· = q) w1).set ⟨q, 3, none⟩ v' rfl) (fun g e e' => by have := fo g e; omega), fo⟩, f, by rw [cell_of_row _ _ 3 _ _ _ row1]; rfl, frozen_of_row _ _ 3 _ _ row1, ?_⟩
  obtain ⟨na, cap, rfl, _⟩ := OL.form h2
  exact ⟨_, _, _, rfl⟩
end

theorem UWlt {w : World} {v : Value} {L : List SV} {e : TypeId} (h : OL encS e 9 w v L) {g : Nat} (k : v.ownBlock = some g) : g < w.heap.size := by
  obtain ⟨na, cap, rfl, _, h2⟩ := OL.form h
  rcases h2 with ⟨rfl, _⟩ | ⟨g', rfl, h3⟩
  · cases k
  · cases k; exact h3

theorem give_stop {W w : World} {q : Nat} {s : Int} {t u : Nat} {L : List SV} {k : Int} {v : Value} (h : RWk W q s t u L k false v w) (x : Int) :
    Calls Try.prog 35 #[.pointer (some ⟨q, 0, none⟩), .int .u64 x, .bool false] w fun e w' => e = .returned (.tuple #[]) ∧ RWk W q s t u L (-1) true v w' := by
  have c5 := h.c5
  have c4 := h.c4
  have f4 := h.fz 4
  have f5 := h.fz 5
  have E : Hid (RWk W q s t u L (-1) true v ((w.setCell ⟨q, 4, none⟩ (.int .i64 (-1))).setCell ⟨q, 5, none⟩ (.bool true))) := (h.set4 (-1)).set5 true
  clear h
  go_enter Try.func35, Try.ntmps35
  go_wp2
  refine bodyPost_ret (results_none rfl _ _ _) rfl ?_
  exact ⟨rfl, E.out⟩

theorem rdecode_dv (s : Int) (l u : Nat) (w : World) (hu : u < 18446744073709551616) :
    Calls Try.prog 66 #[.int .i64 s, .int .i64 (l : Int), .int .u64 (u : Int)] w fun e w' => e = .returned (.tuple #[.agg #[.int .i64 (dvN s l u).k, .int .u64 ((dvN s l u).a : Int), .bool (dvN s l u).r, .bool (dvN s l u).q, .bool (dvN s l u).x, .int .i64 (dvN s l u).f], .int .i64 (decE s l u)]) ∧ Kp w w' := rdecode_any s l u w hu
theorem dv_table {s : Int} {l u : Nat} (h : (dvN s l u).k = 1) : decE s l u = 0 := by
  cases g : decG s l u
  · exfalso
    have e : (dvN s l u).k = 0 := by unfold dvN; rw [g]; rfl
    omega
  · exact (dec_good s l u g).1

set_option maxHeartbeats 8000000 in
set_option maxRecDepth 10000 in
theorem give_word {W w : World} {q : Nat} {s : Int} {t u : Nat} {L : List SV} {k : Int} {v : Value} (h : RWk W q s t u L k false v w) (x : Nat) (hx : x < 18446744073709551616) (hu : u < 18446744073709551616) (hL : L.length ≤ 3) (t' : Nat) (k' : Int) (o' : Bool)
    (hc : ((dvN s L.length x).k = 1 ∧ t' = (dvN s L.length x).a ∧ k' = k ∧ o' = decide (L.length = 3)) ∨ (¬ (dvN s L.length x).k = 1 ∧ t' = t ∧ k' = endN (dvN s L.length x).k (decE s L.length x) ∧ o' = true)) :
    Calls Try.prog 35 #[.pointer (some ⟨q, 0, none⟩), .int .u64 (x : Int), .bool true] w fun e w' => e = .returned (.tuple #[]) ∧ ∃ v', RWk W q s t' u (L ++ [⟨L.length, atN t u L.length, x, dvN s L.length x⟩]) k' o' v' w' := by
  obtain ⟨na, c, rfl⟩ := h.shape
  have hA : Aside (∀ p : KeptBy w, Calls Try.prog 34 #[.pointer (some ⟨q, 0, none⟩)] p.v fun e w' => e = .returned (.int .u64 (atN t u L.length : Int)) ∧ Kp p.v w') := fun p => at_any (h.keep p.k) hu
  have hD : Aside (∀ w, Calls Try.prog 66 #[.int .i64 s, .int .i64 (L.length : Int), .int .u64 (x : Int)] w fun e w' => e = .returned (.tuple #[.agg #[.int .i64 (dvN s L.length x).k, .int .u64 ((dvN s L.length x).a : Int), .bool (dvN s L.length x).r, .bool (dvN s L.length x).q, .bool (dvN s L.length x).x, .int .i64 (dvN s L.length x).f], .int .i64 (decE s L.length x)]) ∧ Kp w w') := fun w => rdecode_dv s L.length x w hx
  have hT := @dv_table s L.length x
  obtain ⟨p, hp⟩ : ∃ p, p = atN t u L.length := ⟨_, rfl⟩
  rw [← hp] at hA ⊢
  generalize dvN s L.length x = d at *
  generalize decE s L.length x = de at *
  obtain ⟨dk, da, dr, dq, dx, df⟩ := d
  simp only at hc hD hT
  have HH : Hid (RWk W q s t u L k false (.slice na L.length c) w) := h
  have HC : Hid ((dk = 1 ∧ t' = da ∧ k' = k ∧ o' = decide (L.length = 3)) ∨ (¬ dk = 1 ∧ t' = t ∧ k' = endN dk de ∧ o' = true)) := hc
  have HT : Hid (dk = 1 → de = 0) := hT
  have c5 := h.c5
  have kb : Nonempty (KeptBy w) := KeptBy.some
  have k3 : ∀ p : KeptBy w, p.v.cell? ⟨q, 3, none⟩ = some (.slice na L.length c) := fun p => (h.keep p.k).c3
  obtain ⟨l, hl⟩ : ∃ l, L.length = l := ⟨_, rfl⟩
  have HL : Hid (L.length = l) := hl
  rw [hl] at hD k3 hL
  have y1 : (l : Int) ≤ 3 := by omega
  clear h hc hT hp hl hx hu
  go_enter Try.func35, Try.ntmps35
  go_wp2_with fail
  refine wp_region_kept mixed (by kernel_rfl) ?_
  repeat (go_big_quiet_step (first | exact rfl | (go_at_call 34; with_reducible refine Calls.kept_of (hA.out _))))
  refine wpQuiet_nil ?_
  intro w1 hw'
  have kq : Kp w w1 := by obtain ⟨p, rfl⟩ := hw'; exact p.k
  have HH1 : Hid (RWk W q s t u L k false (.slice na L.length c) w1) := HH.out.keep kq
  clear hw' kq HH k3 c5 kb hA
  have c0 := HH1.out.c0
  go_wp2_with fail
  with_reducible refine (hD.out _).mono ?_
  rintro e w2 ⟨rfl, K2⟩
  have H2 : RWk W q s t u L k false (.slice na L.length c) w2 := HH1.out.keep K2
  clear HH1 K2 c0 hD
  obtain ⟨w3, hw3⟩ : ∃ w3, w3 = w2.alloc (.cells #[.int .i64 dk, .int .u64 (da : Int), .bool dr, .bool dq, .bool dx, .int .i64 df] 73) := ⟨_, rfl⟩
  have B3 : BX w3 w2.heap.size dk (da : Int) dr dq dx df := by rw [hw3]; exact BX.made w2 dk (da : Int) dr dq dx df
  have H3 : RWk W q s t u L k false (.slice na L.length c) w3 := H2.keep (by rw [hw3]; exact (Kp.refl _).alloc _)
  obtain ⟨w4, hw4⟩ : ∃ w4, w4 = (w3.alloc (.cells #[.int .i64 (l : Int), .int .u64 (p : Int), .int .u64 (x : Int), .int .i64 dk, .int .u64 (da : Int), .bool dr, .bool dq, .bool dx, .int .i64 df] 95)).drew := ⟨_, rfl⟩
  have K4 : Kp w3 w4 := by rw [hw4]; exact ((Kp.refl _).alloc _).drew
  have C4 : w4.heap[w3.heap.size]? = some (.cells #[.int .i64 (l : Int), .int .u64 (p : Int), .int .u64 (x : Int), .int .i64 dk, .int .u64 (da : Int), .bool dr, .bool dq, .bool dx, .int .i64 df] 95) := by rw [hw4]; exact heap_alloc_new w3 _
  have H4 := H3.keep K4
  have B4 := B3.kp K4
  obtain ⟨v', w5, r1, H5, F5, g3, f3, ⟨na', n', c', hv'⟩⟩ := H4.snoc (by rw [HL.out]; omega) ⟨l, p, x, ⟨dk, da, dr, dq, dx, df⟩⟩ w3.heap.size C4
  subst hv'
  have lb : q < w2.heap.size := lt_of_row H2.row
  have B5 : BX w5 w2.heap.size dk (da : Int) dr dq dx df := (F5.block _ B4.lt (fun e => by have := UWlt H2.own e; omega)).trans B4
  have B6 : BX (w5.setCell ⟨q, 3, none⟩ (.slice na' n' c')) w2.heap.size dk (da : Int) dr dq dx df := BX.setO B5 3 _ (by omega)
  rw [hw4, HL.out] at r1
  have c3 := H3.c3
  rw [HL.out] at c3
  have c4 : (w3.alloc (.cells #[.int .i64 (l : Int), .int .u64 (p : Int), .int .u64 (x : Int), .int .i64 dk, .int .u64 (da : Int), .bool dr, .bool dq, .bool dx, .int .i64 df] 95)).cell? ⟨q, 3, none⟩ = some (.slice na l c) := by
    have h := (H3.keep ((Kp.refl w3).alloc (.cells #[.int .i64 (l : Int), .int .u64 (p : Int), .int .u64 (x : Int), .int .i64 dk, .int .u64 (da : Int), .bool dr, .bool dq, .bool dx, .int .i64 df] 95))).c3
    rw [HL.out] at h
    exact h
  have x0 := B3.c0
  have x1 := B3.c1
  have x2 := B3.c2
  have x3 := B3.c3
  have x4 := B3.c4
  have x5 := B3.c5
  have HH6 : Hid (RWk W q s t u (L ++ [⟨l, p, x, ⟨dk, da, dr, dq, dx, df⟩⟩]) k false (.slice na' n' c') (w5.setCell ⟨q, 3, none⟩ (.slice na' n' c'))) := H5
  have HB6 : Hid (BX (w5.setCell ⟨q, 3, none⟩ (.slice na' n' c')) w2.heap.size dk (da : Int) dr dq dx df) := B6
  go_upto_region 5 with fail
  rw [← hw3]
  clear hw3 hw4 H2 H3 H4 H5 B3 B4 B5 B6 F5 C4 K4
  obtain ⟨w6, hw6⟩ : ∃ w6, w6 = w5.setCell ⟨q, 3, none⟩ (.slice na' n' c') := ⟨_, rfl⟩
  rw [← hw6] at HH6 HB6
  go_cut [] (fun wx => wx = w6)
  case first =>
    go_region_law (first | (refine step_append_of r1 (by rfl) (.tmp 43) (.tmp 49) (by rfl) (by rfl) (by rfl) (by rfl) ?_))
    all_goals
      go_wp2_with fail
      go_meet
      exact hw6.symm
  case rest =>
    subst hcut
    clear r1 c3 c4 g3 f3 x0 x1 x2 x3 x4 x5 hw6
    have x0 := HB6.out.c0
    have x1 := HB6.out.c1
    have c1 := HH6.out.c1
    have c4 := HH6.out.c4
    have c5 := HH6.out.c5
    have f1 := HH6.out.fz 1
    have f4 := HH6.out.fz 4
    have f5 := HH6.out.fz 5
    rcases HC.out with ⟨a1, a2, a3, a4⟩ | ⟨a1, a2, a3, a4⟩
    · have de0 := HT.out a1
      have y2 : ((l : Int) == 3) = o' := by
        rw [a4, HL.out]
        by_cases c : l = 3
        · subst c; rfl
        · rw [decide_eq_false c, beq_eq_false_iff_ne]; omega
      clear HC HT a4
      subst a1 a2 a3 de0
      go_wp2
      go_end0
      exact ⟨rfl, _, by rw [HL.out]; exact (HH6.out.set1 t').set5 o'⟩
    · clear HC HT
      subst a2 a4
      have fin : ∀ z, z = k' → ∃ v', RWk W q s t' u (L ++ [⟨L.length, p, x, ⟨dk, da, dr, dq, dx, df⟩⟩]) k' true v' ((wc.setCell ⟨q, 4, none⟩ (.int .i64 z)).setCell ⟨q, 5, none⟩ (.bool true)) := fun z hz => by
        subst hz
        rw [HL.out]
        exact ⟨_, (HH6.out.set4 _).set5 true⟩
      have FIN : Aside (∀ z, z = k' → ∃ v', RWk W q s t' u (L ++ [⟨L.length, p, x, ⟨dk, da, dr, dq, dx, df⟩⟩]) k' true v' ((wc.setCell ⟨q, 4, none⟩ (.int .i64 z)).setCell ⟨q, 5, none⟩ (.bool true))) := fin
      clear fin
      by_cases g2 : de = 2
      · have e3 : (3 : Int) = k' := by rw [a3]; unfold endN; rw [if_pos g2]
        have E := FIN.out 3 e3
        have HE : Hid (∃ v', RWk W q s t' u (L ++ [⟨L.length, p, x, ⟨dk, da, dr, dq, dx, df⟩⟩]) k' true v' ((wc.setCell ⟨q, 4, none⟩ (.int .i64 3)).setCell ⟨q, 5, none⟩ (.bool true))) := E
        clear E FIN a3 e3
        subst g2
        go_wp2
        go_end0
        exact ⟨rfl, HE.out⟩
      have z2 : (de == 2) = false := by rw [beq_eq_false_iff_ne]; exact g2
      by_cases g0 : de = 0
      · by_cases gk : dk = 0
        · have e3 : (1 : Int) = k' := by rw [a3]; unfold endN; rw [if_neg g2, if_neg (by omega), if_pos gk]
          have E := FIN.out 1 e3
          have HE : Hid (∃ v', RWk W q s t' u (L ++ [⟨L.length, p, x, ⟨dk, da, dr, dq, dx, df⟩⟩]) k' true v' ((wc.setCell ⟨q, 4, none⟩ (.int .i64 1)).setCell ⟨q, 5, none⟩ (.bool true))) := E
          clear E FIN a3 e3
          subst g0 gk
          go_wp2
          go_end0
          exact ⟨rfl, HE.out⟩
        · have e3 : (0 : Int) = k' := by rw [a3]; unfold endN; rw [if_neg g2, if_neg (by omega), if_neg gk]
          have z3 : (dk == 0) = false := by rw [beq_eq_false_iff_ne]; exact gk
          have z4 : (dk != 1) = true := by rw [bne_iff_ne]; exact a1
          have E := FIN.out 0 e3
          have HE : Hid (∃ v', RWk W q s t' u (L ++ [⟨L.length, p, x, ⟨dk, da, dr, dq, dx, df⟩⟩]) k' true v' ((wc.setCell ⟨q, 4, none⟩ (.int .i64 0)).setCell ⟨q, 5, none⟩ (.bool true))) := E
          clear E FIN a3 e3
          subst g0
          go_wp2
          go_end0
          exact ⟨rfl, HE.out⟩
      · have e3 : (4 : Int) = k' := by rw [a3]; unfold endN; rw [if_neg g2, if_pos g0]
        have z3 : (de != 0) = true := by rw [bne_iff_ne]; exact g0
        have E := FIN.out 4 e3
        have HE : Hid (∃ v', RWk W q s t' u (L ++ [⟨L.length, p, x, ⟨dk, da, dr, dq, dx, df⟩⟩]) k' true v' ((wc.setCell ⟨q, 4, none⟩ (.int .i64 4)).setCell ⟨q, 5, none⟩ (.bool true))) := E
        clear E FIN a3 e3
        go_wp2
        go_end0
        exact ⟨rfl, HE.out⟩

end Go.Proofs.Ytclcickhgoiooaa
