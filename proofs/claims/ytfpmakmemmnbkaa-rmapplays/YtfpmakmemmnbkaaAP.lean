/- demesnelaw17: RmapPlays. -/
import Derived.Test.YtfpmakmemmnbkaaAN
import Derived.Test.YtfpmakmemmnbkaaAM
import Derived.Deep.RegionHeld3
import Derived.Deep.CutBlock
import Derived.Deep.DeepCutAuto
namespace Go.Proofs.Ytfpmakmemmnbkaa
open Go.RowKit
set_option maxRecDepth 10000

/-- Both, beside the lists that were told. -/
def PQY (W w : World) (p q bo : Nat) (o : Int × UC) (T : List UC) (va : Value) (Lp : List PLc) (vf : Value) (Lf : List Int) (w5 : World) : Prop := PQX W w p q bo o T T ∧ SVw LTp w va Lp ∧ SVw LTi w vf Lf ∧ Kp w5 w
section
variable {W w w' w5 : World} {p q bo : Nat} {o : Int × UC} {T : List UC} {va vf : Value} {Lp : List PLc} {Lf : List Int}
theorem PQY.kp (h : PQY W w p q bo o T va Lp vf Lf w5) (k : Kp w w') : PQY W w' p q bo o T va Lp vf Lf w5 := ⟨h.1.kp k, h.2.1.kp k, h.2.2.1.kp k, h.2.2.2.trans k⟩
theorem PQY.mhas (h : PQY W w p q bo o T va Lp vf Lf w5) (ho : okU o.2) : Calls Try.prog 13 #[.pointer (some ⟨p, 0, none⟩), .int .i64 o.2.1, plV o.2.2] w fun e w' => e = .returned (.bool (decide (o.2 ∈ T))) ∧ PQY W w' p q bo o T va Lp vf Lf w5 :=
  (h.1.mhas ho).mono fun _ _ ⟨q1, _, q3⟩ => ⟨q1, h.kp q3⟩
theorem PQY.uhas (h : PQY W w p q bo o T va Lp vf Lf w5) (hl : T.length ≤ 100) : Calls Try.prog 14 #[.pointer (some ⟨q, 0, none⟩), .int .i64 o.2.1, plV o.2.2] w fun e w' => e = .returned (.bool (decide (o.2 ∈ T))) ∧ PQY W w' p q bo o T va Lp vf Lf w5 :=
  (h.1.uhas hl).mono fun _ _ ⟨q1, _, q3⟩ => ⟨q1, h.kp q3⟩
theorem PQY.ulist (h : PQY W w p q bo o T va Lp vf Lf w5) (hl : T.length ≤ 100) (hL : srtP (usT T o.2.1) = Lp) : Calls Try.prog 16 #[.pointer (some ⟨q, 0, none⟩), .int .i64 o.2.1] w fun e w' => (∃ v, e = .returned v ∧ SVw LTp w' v Lp) ∧ PQY W w' p q bo o T va Lp vf Lf w5 := by
  subst hL
  exact (h.1.ulist hl).mono fun _ _ ⟨q1, _, q3⟩ => ⟨q1, h.kp q3⟩
theorem PQY.uframes (h : PQY W w p q bo o T va Lp vf Lf w5) (hl : T.length ≤ 100) (hL : frT T = Lf) : Calls Try.prog 18 #[.pointer (some ⟨q, 0, none⟩)] w fun e w' => (∃ v, e = .returned v ∧ SVw LTi w' v Lf) ∧ PQY W w' p q bo o T va Lp vf Lf w5 := by
  subst hL
  exact (h.1.uframes hl).mono fun _ _ ⟨q1, _, q3⟩ => ⟨q1, h.kp q3⟩
theorem PQY.same (h : PQY W w p q bo o T va Lp vf Lf w5) {vb : Value} (s : SVw LTp w vb Lp) (hl : Lp.length ≤ 2000000) : Calls Try.prog 15 #[va, vb] w fun e w' => e = .returned (.bool true) ∧ PQY W w' p q bo o T va Lp vf Lf w5 := by
  have := sameX_any h.2.1 s hl
  rw [decide_eq_true rfl] at this
  exact this.mono fun _ _ ⟨q1, q3⟩ => ⟨q1, h.kp q3⟩
theorem PQY.ints (h : PQY W w p q bo o T va Lp vf Lf w5) {vb : Value} (s : SVw LTi w vb Lf) (hl : Lf.length ≤ 2000000) : Calls Try.prog 17 #[vf, vb] w fun e w' => e = .returned (.bool true) ∧ PQY W w' p q bo o T va Lp vf Lf w5 := by
  have := intsX_any h.2.2.1 s hl
  rw [decide_eq_true rfl] at this
  exact this.mono fun _ _ ⟨q1, q3⟩ => ⟨q1, h.kp q3⟩
theorem frT_len (T : List UC) : (frT T).length ≤ T.length := by
  unfold frT
  rw [(srtI_perm _).length_eq]
  have := nodup_le (K := ddI (T.map (·.1))) (M := T.map (·.1)) (ddI_nodup _) (fun x hx => ddI_mem.1 hx)
  simpa using this
theorem AX.setP {b g n cap i : Nat} {L : List PLc} (H : AX LTp w b (.slice (some ⟨g, 0, none⟩) n cap) L) (hi : i < L.length) : ∃ L', L'.length = L.length ∧ AX LTp (w.setCell ⟨g, i * 2, none⟩ (.int .i64 (-1))) b (.slice (some ⟨g, 0, none⟩) n cap) L' := by
  obtain ⟨x, hx⟩ : ∃ x, L[i]? = some x := ⟨_, List.getElem?_eq_getElem hi⟩
  have := OL.set (x' := (-1, x.2)) encL_place H.ol hx (j := 0) (by decide) (u := .int .i64 (-1)) rfl
  refine ⟨L.set i (-1, x.2), by simp, this.1, fun k hk => ?_⟩
  exact ⟨(H.up k hk).1, Nat.lt_of_lt_of_le (H.up k hk).2 this.2.size⟩
theorem AX.setI {b g n cap i : Nat} {L : List Int} (H : AX LTi w b (.slice (some ⟨g, 0, none⟩) n cap) L) (hi : i < L.length) : ∃ L', L'.length = L.length ∧ AX LTi (w.setCell ⟨g, i, none⟩ (.int .i64 (-1))) b (.slice (some ⟨g, 0, none⟩) n cap) L' := by
  obtain ⟨x, hx⟩ : ∃ x, L[i]? = some x := ⟨_, List.getElem?_eq_getElem hi⟩
  have := OL.set (x' := -1) encL_num H.ol hx (j := 0) (by decide) (u := .int .i64 (-1)) rfl
  rw [Nat.mul_one, Nat.add_zero] at this
  refine ⟨L.set i (-1), by simp, this.1, fun k hk => ?_⟩
  exact ⟨(H.up k hk).1, Nat.lt_of_lt_of_le (H.up k hk).2 this.2.size⟩
theorem AX.storeP {na : Option Addr} {b n cap i : Nat} {L : List PLc} (H : AX LTp w b (.slice na n cap) L) (hi : i < n) : ∃ g u, na = some ⟨g, 0, none⟩ ∧ b ≤ g ∧ n ≤ cap ∧ w.cell? ⟨g, i * 2, none⟩ = some u ∧ w.frozen? ⟨g, i * 2, none⟩ = false ∧ ∃ L', L'.length = n ∧ AX LTp (w.setCell ⟨g, i * 2, none⟩ (.int .i64 (-1))) b (.slice na n cap) L' := by
  obtain ⟨rfl, hcap⟩ := H.len
  obtain ⟨_, _, e, _, _, hc⟩ := H.form okT_place
  cases e
  obtain ⟨x, hx⟩ : ∃ x, L[i]? = some x := ⟨_, List.getElem?_eq_getElem hi⟩
  obtain ⟨g, rfl, _, hb, hcc⟩ := hc i x hx
  obtain ⟨L', e', h'⟩ := H.setP hi
  exact ⟨g, .int .i64 x.1, rfl, hb, hcap, hcc 0 _ rfl, H.ol.frz _, L', e', h'⟩
theorem AX.storeI {na : Option Addr} {b n cap i : Nat} {L : List Int} (H : AX LTi w b (.slice na n cap) L) (hi : i < n) : ∃ g u, na = some ⟨g, 0, none⟩ ∧ b ≤ g ∧ n ≤ cap ∧ w.cell? ⟨g, i, none⟩ = some u ∧ w.frozen? ⟨g, i, none⟩ = false ∧ ∃ L', L'.length = n ∧ AX LTi (w.setCell ⟨g, i, none⟩ (.int .i64 (-1))) b (.slice na n cap) L' := by
  obtain ⟨rfl, hcap⟩ := H.len
  obtain ⟨_, _, e, _, _, hc⟩ := H.form okT_num
  cases e
  obtain ⟨x, hx⟩ : ∃ x, L[i]? = some x := ⟨_, List.getElem?_eq_getElem hi⟩
  obtain ⟨g, rfl, _, hb, hcc⟩ := hc i x hx
  obtain ⟨L', e', h'⟩ := H.setI hi
  have h0 := hcc 0 _ rfl
  rw [show LTi.sz = 1 from rfl, Nat.mul_one, Nat.add_zero] at h0
  exact ⟨g, .int .i64 x, rfl, hb, hcap, h0, H.ol.frz _, L', e', h'⟩
end
set_option maxHeartbeats 16000000 in
theorem mplays_any (na : Option Addr) (mc cap : Nat) (V : Nat → Int × UC) (w : World) (hO : Steps w na mc V) (hm : mc ≤ maxLen) :
    Calls Try.prog 3 #[.slice na mc cap] w fun e w' => e = .returned (.bool true) ∧ Kp w w' := by
  have cN := rnew_any w
  have cT : Aside (∀ w, Calls Try.prog 19 #[] w fun e w' => e = .returned (.bool true) ∧ Kp w w') := fun w => mtold_any w
  have HO : Hid (Steps w na mc V) := hO
  have y0 : (mc : Int) ≤ 9223372036854775807 := by unfold maxLen at hm; omega
  clear hO hm
  go_enter Try.func3, Try.ntmps3
  go_wp2_with fail
  with_reducible refine cN.mono ?_
  rintro e w1 ⟨p, U, bm, g, K, rfl, m1, k1, u1⟩
  clear cN
  go_upto_block 0 with fail
  obtain ⟨q, hq⟩ : ∃ q, q = w1.heap.size := ⟨_, rfl⟩
  obtain ⟨w2, hw2⟩ : ∃ w2, w2 = w1.alloc (.cells #[.slice none 0 0] 28) := ⟨_, rfl⟩
  rw [← hw2, ← hq]
  have I0 : Hid (PQ w w2 p q [] []) := by
    have k2 : Kp w1 w2 := by rw [hw2]; exact (Kp.refl w1).alloc _
    refine ⟨⟨U, bm, g, K, .slice none 0 0, m1.kp k2, ⟨by rw [hw2, hq]; exact heap_alloc_new w1 _, AX.nil _ _, fun _ h => by cases h⟩, fun c => by have := m1.lim _ c; omega, (fun _ h => by cases h), u1⟩, by rw [hq]; exact k1.size, k1.trans k2⟩
  clear m1 k1 u1 hw2 hq
  go_cut [] (fun wx => Hid (Kp w wx))
  case first =>
    go_wp2_with fail
    go_loopg [5] 81 (fun gk v5 wr => ∃ (i : Nat) (T : List UC), v5 = .int .i64 (i : Int) ∧ i ≤ 80 ∧ 81 - i ≤ gk ∧ Hid (PQ w wr p q T T ∧ T.length ≤ i))
    case atStart => exact ⟨0, [], rfl, by omega, by omega, I0.out, Nat.le_refl 0⟩
    case round =>
      clear I0
      obtain ⟨i, T, rfl, hi, hgk, HI⟩ := hrel
      by_cases hlt : i < mc ∧ i < 80
      · have y1 : (i : Int) < mc := by omega
        have y2 : (i : Int) < 80 := by omega
        obtain ⟨⟨cb, co, rfl, d1, d2⟩, wk, wo⟩ := HO.out i hlt.1
        obtain ⟨o, ho⟩ : ∃ o, o = V i := ⟨_, rfl⟩
        rw [← ho] at d2 wk wo
        obtain ⟨kd, fr, pg, pp⟩ := o
        have o0 := (HI.out.1.k.cell (p := ⟨cb, co + i * 4 + 0, none⟩) d1).trans (d2 0 _ rfl)
        have o1 := (HI.out.1.k.cell (p := ⟨cb, co + i * 4 + 1, none⟩) d1).trans (d2 1 _ rfl)
        have o2 := (HI.out.1.k.cell (p := ⟨cb, co + i * 4 + 2, none⟩) d1).trans (d2 2 _ rfl)
        have o3 := (HI.out.1.k.cell (p := ⟨cb, co + i * 4 + 3, none⟩) d1).trans (d2 3 _ rfl)
        simp only [Nat.add_zero] at o0
        have WO : Hid (okU (fr, (pg, pp))) := wo
        clear d1 d2 ho wk wo
        go_upto_region 9 with fail
        have X3 : PQX w (wr.alloc (.cells #[.int .i64 kd, .int .i64 fr, .int .i64 pg, .int .u64 pp] 33)) p q wr.heap.size (kd, (fr, (pg, pp))) T T := HI.out.1.box (kd, (fr, (pg, pp)))
        generalize wr.alloc (.cells #[.int .i64 kd, .int .i64 fr, .int .i64 pg, .int .u64 pp] 33) = w3 at *
        generalize wr.heap.size = bo at *
        clear o0 o1 o2 o3
        have HX : Hid (PQX w w3 p q bo (kd, (fr, (pg, pp))) T T ∧ T.length ≤ 80) := ⟨X3, by have := HI.out.2; omega⟩
        have HL : Hid (T.length ≤ i) := HI.out.2
        clear X3 HI
        have C0 := HX.out.1.cells
        obtain ⟨e0, e1, e2, e3⟩ := C0
        dsimp only at e0 e1 e2 e3
        obtain ⟨t, m, k1, k2, k3, k4, k5⟩ := place_of kd 3 (by omega)
        rw [show ((3 : Nat) : Int) = 3 from rfl] at k1 k2 k3 k4
        go_upto_if 37 with fail
        go_cut [7, 8] (fun v7 v8 wx => ∃ (r : Int) (T' : List UC), v7 = .int .i64 r ∧ v8 = .int .i64 r ∧ Hid (PQX w wx p q bo (kd, (fr, (pg, pp))) T' T' ∧ T'.length ≤ i + 1))
        case first =>
          have XC : Hid (∀ v T1 T2, PQX w v p q bo (kd, (fr, (pg, pp))) T1 T2 → v.cell? ⟨bo, 1, none⟩ = some (.int .i64 fr) ∧ v.cell? ⟨bo, 2, none⟩ = some (.int .i64 pg) ∧ v.cell? ⟨bo, 3, none⟩ = some (.int .u64 pp)) := fun v T1 T2 h => h.c3
          by_cases c : m < 2
          · have y3 : (m : Int) < 2 := by omega
            have cA := (HX.out.1.kp (Kp.refl w3).drew).madd (by have := HX.out.2; omega) WO.out
            have cU : Aside (∀ v, PQX w v p q bo (kd, (fr, (pg, pp))) (addT T (fr, (pg, pp))) T → Calls Try.prog 8 #[.pointer (some ⟨q, 0, none⟩), .int .i64 fr, .agg #[.int .i64 pg, .int .u64 pp]] v fun e w' => e = .returned (.int .i64 (addN T (fr, (pg, pp)))) ∧ PQX w w' p q bo (kd, (fr, (pg, pp))) (addT T (fr, (pg, pp))) (addT T (fr, (pg, pp)))) := fun v h => h.uadd (by have := HX.out.2; omega)
            have HN : Hid ((addT T (fr, (pg, pp))).length ≤ i + 1) := by have := addT_len T (fr, (pg, pp)); have := HL.out; show _ ≤ _; omega
            unfold plV at cA
            dsimp only at cA
            generalize addT T (fr, (pg, pp)) = T' at *
            generalize addN T (fr, (pg, pp)) = r at *
            clear k5 c HX
            go_wp2_with fail
            go_region_held3 (fun v => v.cell? ⟨bo, 1, none⟩ = some (.int .i64 fr) ∧ v.cell? ⟨bo, 2, none⟩ = some (.int .i64 pg) ∧ v.cell? ⟨bo, 3, none⟩ = some (.int .u64 pp))
              (first | go_keep | exact XC.out _ _ _ X5 | exact XC.out _ _ _ X4)
              (first | (go_at_call 7; with_reducible refine cA.mono ?_; rintro e w4 ⟨rfl, X4⟩) | (go_at_call 8; with_reducible refine (cU.out _ X4).mono ?_; rintro e w5 ⟨rfl, X5⟩))
            all_goals
              have HY : Hid (PQX w w5 p q bo (kd, (fr, (pg, pp))) T' T' ∧ T'.length ≤ i + 1) := ⟨X5, HN.out⟩
              clear X4 X5 cA cU XC e0 e1 e2 e3 HN
              go_wp2_with fail
              go_meet
              case rel => exact ⟨r, T', rfl, rfl, HY⟩
          · have y3 : ¬ (m : Int) < 2 := by omega
            have cA := (HX.out.1.kp (Kp.refl w3).drew).mdrop (by have := HX.out.2; omega) WO.out
            have cU : Aside (∀ v, PQX w v p q bo (kd, (fr, (pg, pp))) (T.erase (fr, (pg, pp))) T → Calls Try.prog 10 #[.pointer (some ⟨q, 0, none⟩), .int .i64 fr, .agg #[.int .i64 pg, .int .u64 pp]] v fun e w' => e = .returned (.int .i64 (drpN T (fr, (pg, pp)))) ∧ PQX w w' p q bo (kd, (fr, (pg, pp))) (T.erase (fr, (pg, pp))) (T.erase (fr, (pg, pp)))) := fun v h => h.udrop (by have := HX.out.2; omega)
            have HN : Hid ((T.erase (fr, (pg, pp))).length ≤ i + 1) := by have := erase_len T (fr, (pg, pp)); have := HL.out; show _ ≤ _; omega
            unfold plV at cA
            dsimp only at cA
            generalize T.erase (fr, (pg, pp)) = T' at *
            generalize drpN T (fr, (pg, pp)) = r at *
            clear k5 c HX
            go_wp2_with fail
            go_region_held3 (fun v => v.cell? ⟨bo, 1, none⟩ = some (.int .i64 fr) ∧ v.cell? ⟨bo, 2, none⟩ = some (.int .i64 pg) ∧ v.cell? ⟨bo, 3, none⟩ = some (.int .u64 pp))
              (first | go_keep | exact XC.out _ _ _ X5 | exact XC.out _ _ _ X4)
              (first | (go_at_call 9; with_reducible refine cA.mono ?_; rintro e w4 ⟨rfl, X4⟩) | (go_at_call 10; with_reducible refine (cU.out _ X4).mono ?_; rintro e w5 ⟨rfl, X5⟩))
            all_goals
              have HY : Hid (PQX w w5 p q bo (kd, (fr, (pg, pp))) T' T' ∧ T'.length ≤ i + 1) := ⟨X5, HN.out⟩
              clear X4 X5 cA cU XC e0 e1 e2 e3 HN
              go_wp2_with fail
              go_meet
              case rel => exact ⟨r, T', rfl, rfl, HY⟩
        case rest =>
          obtain ⟨r, T', rfl, rfl, HY⟩ := hcut
          clear HX HL e0 e1 e2 e3 k1 k2 k3 k4 k5
          have X := HY.out.1
          obtain ⟨_, e1, _, _⟩ := X.cells
          dsimp only at e1
          obtain ⟨Lp, hLp⟩ : ∃ Lp, Lp = srtP (usT T' fr) := ⟨_, rfl⟩
          obtain ⟨Lf, hLf⟩ : ∃ Lf, Lf = frT T' := ⟨_, rfl⟩
          have l1 : T'.length ≤ 81 := by have := HY.out.2; omega
          have lp : Lp.length ≤ 81 := by rw [hLp, srtP_len]; have := usT_len T' fr; omega
          have lf : Lf.length ≤ 81 := by rw [hLf]; have := frT_len T'; omega
          have kL := X.mlist (by omega) WO.out
          dsimp only at kL
          rw [← hLp] at kL
          have kF : Aside (∀ v, PQX w v p q bo (kd, (fr, (pg, pp))) T' T' → Calls Try.prog 12 #[.pointer (some ⟨p, 0, none⟩)] v fun e w' => (∃ x, e = .returned x ∧ AX LTi w' v.heap.size x Lf) ∧ PQX w w' p q bo (kd, (fr, (pg, pp))) T' T' ∧ Kp v w') := fun v h => by rw [hLf]; exact h.mframes (by omega)
          have HL : Hid (T'.length ≤ 81 ∧ Lp.length ≤ 81 ∧ Lf.length ≤ 81 ∧ srtP (usT T' fr) = Lp ∧ frT T' = Lf) := ⟨l1, lp, lf, hLp.symm, hLf.symm⟩
          clear X hLp hLf l1 lp lf
          go_wp2_with fail
          with_reducible refine kL.mono ?_
          rintro e w4 ⟨⟨va, rfl, aa⟩, X4, k4⟩
          have kF4 := kF.out _ X4
          have H4 : Hid (AX LTp w4 wc.heap.size va Lp ∧ Kp wc w4) := ⟨aa, k4⟩
          clear kL aa X4 k4 e1 kF
          go_wp2_with fail
          with_reducible refine kF4.mono ?_
          rintro e w5 ⟨⟨vf, rfl, af⟩, X5, k5⟩
          have HW : Hid (AX LTp w5 wc.heap.size va Lp ∧ AX LTi w5 w4.heap.size vf Lf ∧ Kp wc w5 ∧ (∀ b, va.ownBlock = some b → b < w4.heap.size) ∧ wc.heap.size ≤ w4.heap.size) := ⟨H4.out.1.kp k5, af, H4.out.2.trans k5, fun b e => (H4.out.1.up b e).2, H4.out.2.size⟩
          have Y6 : PQY w w5.drew p q bo (kd, (fr, (pg, pp))) T' va Lp vf Lf w5 := PQY.kp ⟨X5, HW.out.1.sv okT_place, af.sv okT_num, Kp.refl _⟩ (Kp.refl w5).drew
          clear kF4 H4 af X5 k5
          have A1 : Aside (∀ v, PQY w v p q bo (kd, (fr, (pg, pp))) T' va Lp vf Lf w5 → Calls Try.prog 13 #[.pointer (some ⟨p, 0, none⟩), .int .i64 fr, .agg #[.int .i64 pg, .int .u64 pp]] v fun e w' => e = .returned (.bool (decide ((fr, (pg, pp)) ∈ T'))) ∧ PQY w w' p q bo (kd, (fr, (pg, pp))) T' va Lp vf Lf w5) := fun v h => h.mhas WO.out
          have A2 : Aside (∀ v, PQY w v p q bo (kd, (fr, (pg, pp))) T' va Lp vf Lf w5 → Calls Try.prog 14 #[.pointer (some ⟨q, 0, none⟩), .int .i64 fr, .agg #[.int .i64 pg, .int .u64 pp]] v fun e w' => e = .returned (.bool (decide ((fr, (pg, pp)) ∈ T'))) ∧ PQY w w' p q bo (kd, (fr, (pg, pp))) T' va Lp vf Lf w5) := fun v h => h.uhas (by have := HL.out.1; omega)
          have A3 : Aside (∀ v, PQY w v p q bo (kd, (fr, (pg, pp))) T' va Lp vf Lf w5 → Calls Try.prog 16 #[.pointer (some ⟨q, 0, none⟩), .int .i64 fr] v fun e w' => (∃ x, e = .returned x ∧ SVw LTp w' x Lp) ∧ PQY w w' p q bo (kd, (fr, (pg, pp))) T' va Lp vf Lf w5) := fun v h => h.ulist (by have := HL.out.1; omega) HL.out.2.2.2.1
          have A4 : Aside (∀ v x, SVw LTp v x Lp → PQY w v p q bo (kd, (fr, (pg, pp))) T' va Lp vf Lf w5 → Calls Try.prog 15 #[va, x] v fun e w' => e = .returned (.bool true) ∧ PQY w w' p q bo (kd, (fr, (pg, pp))) T' va Lp vf Lf w5) := fun v x s h => h.same s (by have := HL.out.2.1; omega)
          have A5 : Aside (∀ v, PQY w v p q bo (kd, (fr, (pg, pp))) T' va Lp vf Lf w5 → Calls Try.prog 18 #[.pointer (some ⟨q, 0, none⟩)] v fun e w' => (∃ x, e = .returned x ∧ SVw LTi w' x Lf) ∧ PQY w w' p q bo (kd, (fr, (pg, pp))) T' va Lp vf Lf w5) := fun v h => h.uframes (by have := HL.out.1; omega) HL.out.2.2.2.2
          have A6 : Aside (∀ v x, SVw LTi v x Lf → PQY w v p q bo (kd, (fr, (pg, pp))) T' va Lp vf Lf w5 → Calls Try.prog 17 #[vf, x] v fun e w' => e = .returned (.bool true) ∧ PQY w w' p q bo (kd, (fr, (pg, pp))) T' va Lp vf Lf w5) := fun v x s h => h.ints s (by have := HL.out.2.2.1; omega)
          have XC : Aside (∀ v, PQY w v p q bo (kd, (fr, (pg, pp))) T' va Lp vf Lf w5 → v.cell? ⟨bo, 1, none⟩ = some (.int .i64 fr) ∧ v.cell? ⟨bo, 2, none⟩ = some (.int .i64 pg) ∧ v.cell? ⟨bo, 3, none⟩ = some (.int .u64 pp)) := fun v h => h.1.c3
          obtain ⟨zb, hzb⟩ : ∃ zb, zb = decide ((fr, (pg, pp)) ∈ T') := ⟨_, rfl⟩
          rw [← hzb] at A1 A2
          clear hzb
          go_wp2_with fail
          go_region_held3 (fun v => v.cell? ⟨bo, 1, none⟩ = some (.int .i64 fr) ∧ v.cell? ⟨bo, 2, none⟩ = some (.int .i64 pg) ∧ v.cell? ⟨bo, 3, none⟩ = some (.int .u64 pp))
            (first | exact XC.out _ Y6 | exact XC.out _ YC | exact XC.out _ YB | exact XC.out _ YA | exact XC.out _ Y9 | exact XC.out _ Y8 | exact XC.out _ Y7)
            (first
              | (go_at_call 13; with_reducible refine (A1.out _ Y6).mono ?_; rintro e w7 ⟨rfl, Y7⟩)
              | (go_at_call 14; with_reducible refine (A2.out _ Y7).mono ?_; rintro e w8 ⟨rfl, Y8⟩)
              | (go_at_call 16; with_reducible refine (A3.out _ Y8).mono ?_; rintro e w9 ⟨⟨xb, rfl, sb⟩, Y9⟩)
              | (go_at_call 15; with_reducible refine (A4.out _ _ sb Y9).mono ?_; rintro e wA ⟨rfl, YA⟩)
              | (go_at_call 18; with_reducible refine (A5.out _ YA).mono ?_; rintro e wB ⟨⟨xf, rfl, sf⟩, YB⟩)
              | (go_at_call 17; with_reducible refine (A6.out _ _ sf YB).mono ?_; rintro e wC ⟨rfl, YC⟩))
          have KC := YC.2.2.2
          have HP : Hid (AX LTp wC wc.heap.size va Lp ∧ AX LTi wC w4.heap.size vf Lf ∧ Kp wc wC ∧ (∀ b, va.ownBlock = some b → b < w4.heap.size) ∧ wc.heap.size ≤ w4.heap.size) := ⟨HW.out.1.kp KC, HW.out.2.1.kp KC, HW.out.2.2.1.trans KC, HW.out.2.2.2⟩
          clear Y6 Y7 Y8 sb Y9 YA sf YB YC KC HW A1 A2 A3 A4 A5 A6 XC
          obtain ⟨ga, ca, ev⟩ : ∃ ga ca, va = .slice ga Lp.length ca := by obtain ⟨a, b, c, _⟩ := HP.out.1.form okT_place; exact ⟨a, b, c⟩
          subst ev
          obtain ⟨gf, cf, ev⟩ : ∃ gf cf, vf = .slice gf Lf.length cf := by obtain ⟨a, b, c, _⟩ := HP.out.2.1.form okT_num; exact ⟨a, b, c⟩
          subst ev
          obtain ⟨mp, hmp⟩ : ∃ mp, mp = Lp.length := ⟨_, rfl⟩
          obtain ⟨mf, hmf⟩ : ∃ mf, mf = Lf.length := ⟨_, rfl⟩
          have lp : (mp : Int) ≤ 81 := by have := HL.out.2.1; omega
          have lf : (mf : Int) ≤ 81 := by have := HL.out.2.2.1; omega
          have HM : Hid (mp = Lp.length ∧ mf = Lf.length) := ⟨hmp, hmf⟩
          rw [← hmp, ← hmf] at HP ⊢
          clear hmp hmf
          go_wp2_with fail
          go_loopg [11] (mp + 1) (fun gg v11 wr => ∃ k : Nat, v11 = .int .i64 (k : Int) ∧ k ≤ mp ∧ mp + 1 - k ≤ gg ∧ Hid (Kp wc wr ∧ (∃ L' : List PLc, L'.length = mp ∧ AX LTp wr wc.heap.size (.slice ga mp ca) L') ∧ AX LTi wr w4.heap.size (.slice gf mf cf) Lf))
          case atStart => exact ⟨0, rfl, by omega, by omega, HP.out.2.2.1, ⟨Lp, HM.out.1.symm, HP.out.1⟩, HP.out.2.1⟩
          case round =>
            obtain ⟨k, rfl, hk, hg, HJ⟩ := hrel
            by_cases e : k < mp
            · have z1 : (k : Int) < mp := by omega
              have z2 : 0 ≤ (k : Int) := by omega
              obtain ⟨L', hL', aL⟩ := HJ.out.2.1
              obtain ⟨g, u, rfl, hgb, hcap, hcell, hfz, hnew⟩ := aL.storeP e
              have HN : Hid (Kp wc (wr.setCell ⟨g, k * 2, none⟩ (.int .i64 (-1))) ∧ (∃ L' : List PLc, L'.length = mp ∧ AX LTp (wr.setCell ⟨g, k * 2, none⟩ (.int .i64 (-1))) wc.heap.size (.slice (some ⟨g, 0, none⟩) mp ca) L') ∧ AX LTi (wr.setCell ⟨g, k * 2, none⟩ (.int .i64 (-1))) w4.heap.size (.slice gf mf cf) Lf) := by
                refine ⟨HJ.out.1.set _ _ hgb, hnew, HJ.out.2.2.fr (Fr.set (S := (· = g)) (Fr.refl _ _) ⟨g, k * 2, none⟩ _ rfl) (fun j hj _ _ ej => ?_)⟩
                have := HP.out.2.2.2.1 g rfl
                subst ej
                omega
              clear HJ aL hnew hL'
              go_wp2_with fail
              go_roundg (mp + 1 - (k + 1))
              case measure => omega
              case rel => exact ⟨k + 1, by go_num, by omega, by omega, HN.out⟩
            · have ek : k = mp := by omega
              subst ek
              have HQ : Hid (Kp wc wr ∧ AX LTi wr w4.heap.size (.slice gf mf cf) Lf) := ⟨HJ.out.1, HJ.out.2.2⟩
              have H4 : Hid (wc.heap.size ≤ w4.heap.size) := HP.out.2.2.2.2
              clear HJ HP
              go_wp2_with fail
              go_loopg [12] (mf + 1) (fun gg v12 wr => ∃ j : Nat, v12 = .int .i64 (j : Int) ∧ j ≤ mf ∧ mf + 1 - j ≤ gg ∧ Hid (Kp wc wr ∧ ∃ L' : List Int, L'.length = mf ∧ AX LTi wr w4.heap.size (.slice gf mf cf) L'))
              case atStart => exact ⟨0, rfl, by omega, by omega, HQ.out.1, Lf, HM.out.2.symm, HQ.out.2⟩
              case round =>
                obtain ⟨j, rfl, hj, hgj, HJ⟩ := hrel
                by_cases e : j < mf
                · have z1 : (j : Int) < mf := by omega
                  have z2 : 0 ≤ (j : Int) := by omega
                  obtain ⟨L', hL', aL⟩ := HJ.out.2
                  obtain ⟨g, u, rfl, hgb, hcap, hcell, hfz, hnew⟩ := aL.storeI e
                  have HN : Hid (Kp wc (wr.setCell ⟨g, j, none⟩ (.int .i64 (-1))) ∧ ∃ L' : List Int, L'.length = mf ∧ AX LTi (wr.setCell ⟨g, j, none⟩ (.int .i64 (-1))) w4.heap.size (.slice (some ⟨g, 0, none⟩) mf cf) L') :=
                    ⟨HJ.out.1.set _ _ (Nat.le_trans H4.out hgb), hnew⟩
                  clear HJ aL hnew hL'
                  go_wp2_with fail
                  go_roundg (mf + 1 - (j + 1))
                  case measure => omega
                  case rel => exact ⟨j + 1, by go_num, by omega, by omega, HN.out⟩
                · have ej : j = mf := by omega
                  subst ej
                  have HZ : Hid (PQ w wr p q T' T' ∧ T'.length ≤ i + 1) := ⟨HY.out.1.pq.kp HJ.out.1, HY.out.2⟩
                  clear HJ HQ
                  go_wp2_with fail
                  go_roundg (81 - (i + 1))
                  case measure => omega
                  case rel => exact ⟨i + 1, T', by go_num, by omega, by omega, HZ.out⟩
      · have HK : Hid (Kp w wr) := HI.out.1.k
        clear HI
        by_cases hm : i < mc
        · have ei : i = 80 := by omega
          subst ei
          have y1 : (80 : Int) < mc := by omega
          rw [show ((80 : Nat) : Int) = 80 from rfl]
          go_wp2_with fail
          go_meet
          case rel => exact HK
        · have y1 : ¬ (i : Int) < mc := by omega
          go_wp2_with fail
          go_meet
          case rel => exact HK
  case rest =>
    have HK : Hid (Kp w wc) := hcut
    clear hcut I0
    go_wp2_with fail
    with_reducible refine (cT.out _).mono ?_
    rintro e w1 ⟨rfl, K1⟩
    have HK2 : Hid (Kp w w1) := HK.out.trans K1
    clear K1 cT
    go_wp2
    go_ret
    exact ⟨rfl, HK2.out⟩

end Go.Proofs.Ytfpmakmemmnbkaa
