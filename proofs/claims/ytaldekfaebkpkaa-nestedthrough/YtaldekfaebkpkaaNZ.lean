/- NestedThrough: its walk. -/
import Derived.Test.YtaldekfaebkpkaaNY
namespace Go.Proofs.Ytaldekfaebkpkaa
open Go.RowKit
set_option maxRecDepth 10000

set_option maxHeartbeats 8000000 in
theorem through_walk (level access : Int) (va u lv m3 t pg : Nat) (w : World) (y1 : bits .and .i64 level 3 = (lv : Int)) (z1 : lv ≤ 3) (y2 : (va : Int) % 65536 = (u : Int)) (y3 : (va : Int).tmod 65536 = (u : Int)) (z2 : u < 65536) (y4 : bits .and .i64 access 3 = (m3 : Int)) (z4 : m3 ≤ 3) (y5 : (m3 : Int).tmod 3 = (t : Int)) (y6 : (m3 : Int) % 3 = (t : Int)) (z5 : t ≤ 2) (y7 : (u : Int) / 4096 = (pg : Int)) (y8 : (u : Int).tdiv 4096 = (pg : Int)) (z7 : pg = u / 4096) :
    Calls Try.prog 6 #[.int .i64 level, .int .u64 (va : Int), .int .i64 access] w fun e w' => e = .returned (.bool true) ∧ Kp w w' := by
  have kt := ltold_any
  have z6 : (t : Int) ≤ 2 := by omega
  have x7 : (m3 : Int) ≤ 3 := by omega
  have x8 : (lv : Int) ≤ 3 := by omega
  have x9 : (pg : Int) ≤ 15 := by omega
  obtain ⟨acc, hacc⟩ : ∃ acc : Int, 1 + (t : Int) = acc := ⟨_, rfl⟩
  obtain ⟨st, hst⟩ : ∃ st : Bool, (acc == 2) = st := ⟨_, rfl⟩
  have c1 := lack_of (lv := lv) (u := u) (by omega) z2 acc
  rw [hst] at c1
  obtain ⟨N1, hN1⟩ : ∃ N1, flN (rdM (thr1 lv)) 4096 0 u = N1 := ⟨_, rfl⟩
  rw [hN1] at c1
  obtain ⟨ov, fv, N, c0, _⟩ := onC_some (rdM (lay3 16)) 4096 0 u acc
  have c2 := same_on (same_of (lv := lv) (by omega) z2) acc ov fv N c0
  obtain ⟨oF, oI, oa, ob, oc, or', oq, ox⟩ := ov
  obtain ⟨fs, fk, fl, fa, ft⟩ := fv
  have HU : Hid (lv ≤ 3 ∧ u < 281474976710656) := ⟨z1, by omega⟩
  obtain ⟨w0, hw0⟩ : ∃ w0, w0 = (w.alloc (.cells #[.int .u64 4096, .bool true, .int .u64 0] 45)) := ⟨_, rfl⟩
  have VB : RX w0 w.heap.size 45 [.int .u64 4096, .bool true, .int .u64 0] := by rw [hw0]; exact RX.made w _ _
  have HW0 : Hid (Kp w w0) := by rw [hw0]; exact (Kp.refl w).alloc _
  have kw : Calls Try.prog 9 #[.slice none 0 0] (w.alloc (.cells #[.int .u64 4096, .bool true, .int .u64 0] 45)) fun e w' => ∃ p, e = .returned (.tuple #[.pointer (some ⟨p, 0, none⟩), .bool true]) ∧ Hid (WW w0 (fun _ => False) p 100 (lay3 16) w') := by
    rw [hw0]
    exact (world_any none 0 0 (fun _ => ⟨0, 0, ⟨0, 0, false, false, false, 0⟩, false, 0⟩) _ (fun i hi => by omega)).mono fun e w' ⟨p, M, e1, e2, e3⟩ => ⟨p, e1, (e3 rfl ▸ e2)⟩
  by_cases c : lv = 3
  · have g1 : ((lv : Int) == 3) = true := by rw [beq_iff_eq]; omega
    rw [if_pos c, ← z7] at c1
    have HC : Hid (onC (rdM (lay3 16)) 4096 0 u acc ⟨oF, oI, oa, ob, oc, or', oq, ox⟩ ⟨fs, fk, fl, fa, ft⟩ N ∧ onC (rdM (thr1 lv)) 4096 0 u acc zO ⟨2, 1, (lv : Int), lv * 4096 + 8 * pg, st⟩ N1 ∧ onC (rdM (thr2 lv)) 4096 0 u acc ⟨oF, oI, oa, ob, oc, or', oq, ox⟩ ⟨fs, fk, fl, fa, ft⟩ N) := ⟨c0, c1, c2⟩
    clear c0 c1 c2 c z1 z2 z4 z5 z7 hN1
    go_enter Try.func6, Try.ntmps6
    go_wp2_with fail
    with_reducible refine kw.mono ?_
    rintro e v1 ⟨p, rfl, H1⟩
    clear kw
    rw [show w.alloc (.cells #[.int .u64 4096, .bool true, .int .u64 0] 45) = w0 from hw0.symm] at *
    have d0 := (VB.kp H1.out.k).cell (j := 0) rfl; have d1 := (VB.kp H1.out.k).cell (j := 1) rfl; have d2 := (VB.kp H1.out.k).cell (j := 2) rfl
    have k1 : Calls Try.prog 15 #[.pointer (some ⟨p, 0, none⟩), .agg #[.int .u64 4096, .bool true, .int .u64 0], .int .u64 (u : Int), .int .i64 acc] v1 fun e w' => e = .returned (.tuple #[.agg #[.int .i64 oF, .int .u64 (oI : Int), .bool oa, .bool ob, .bool oc, .bool or', .bool oq, .bool ox], .agg #[.int .i64 fs, .int .i64 fk, .int .i64 fl, .int .u64 (fa : Int), .bool ft], .int .i64 (N : Int)]) ∧ Hid (WW w0 (fun _ => False) p 124 (lay3 16) w') := (won_any H1.out 4096 0 u acc (by decide) HU.out.2 (by decide) (by decide) (by decide) _ _ _ HC.out.1).mono fun e w' ⟨e1, e2, _⟩ => ⟨e1, e2⟩
    go_wp2_with fail
    with_reducible refine k1.mono ?_
    rintro _ w2 ⟨rfl, H2⟩
    clear k1 d0 d1 d2 H1
    have R2 := box2_o w2 ⟨oF, oI, oa, ob, oc, or', oq, ox⟩ ⟨fs, fk, fl, fa, ft⟩
    have F2 := box2_f w2 ⟨oF, oI, oa, ob, oc, or', oq, ox⟩ ⟨fs, fk, fl, fa, ft⟩
    have W2 := H2.out.boxes ⟨oF, oI, oa, ob, oc, or', oq, ox⟩ ⟨fs, fk, fl, fa, ft⟩
    obtain ⟨v2, hv2⟩ : ∃ v, v = box2 w2 ⟨oF, oI, oa, ob, oc, or', oq, ox⟩ ⟨fs, fk, fl, fa, ft⟩ := ⟨_, rfl⟩
    rw [← hv2] at R2 F2 W2
    have he2 : v2 = (w2.alloc (.cells #[.int .i64 oF, .int .u64 (oI : Int), .bool oa, .bool ob, .bool oc, .bool or', .bool oq, .bool ox] 31)).alloc (.cells #[.int .i64 fs, .int .i64 fk, .int .i64 fl, .int .u64 (fa : Int), .bool ft] 33) := hv2
    have HW2 : Hid (WW w0 (fun i => False ∨ w2.heap.size ≤ i ∧ i < w2.heap.size + 2) p 124 (lay3 16) v2) := W2
    clear hv2 H2 W2
    have k2 : Calls Try.prog 18 #[.pointer (some ⟨p, 0, none⟩), .int .u64 (16384 + (lv : Int) * 8), .int .i64 8, .int .u64 0] v2 fun e w' => e = .returned (.int .i64 0) ∧ Hid (WW w0 (fun i => False ∨ w2.heap.size ≤ i ∧ i < w2.heap.size + 2) p 125 (thr1 lv) w' ∧ Fr (OuX w0 (fun i => False ∨ w2.heap.size ≤ i ∧ i < w2.heap.size + 2)) v2 w') := by
      have := HW2.out.write 4 lv 0 (by decide) (by have := HU.out.1; omega) (by decide) (by decide)
      rw [show ((4 * 4096 + 8 * lv : Nat) : Int) = 16384 + (lv : Int) * 8 by omega] at this
      exact this
    go_wp2_with fail
    rw [← he2]
    clear he2
    with_reducible refine k2.mono ?_
    rintro _ w3 ⟨rfl, H3⟩
    have R3 := R2.fr H3.out.2 (fun c => c.2 (.inr ⟨Nat.le_refl _, by omega⟩))
    have F3 := F2.fr H3.out.2 (fun c => c.2 (.inr ⟨by omega, by omega⟩))
    have VB3 := VB.kp H3.out.1.k
    have d0 := VB3.cell (j := 0) rfl; have d1 := VB3.cell (j := 1) rfl; have d2 := VB3.cell (j := 2) rfl
    clear k2 R2 F2 HW2 VB3
    have k3 : Calls Try.prog 15 #[.pointer (some ⟨p, 0, none⟩), .agg #[.int .u64 4096, .bool true, .int .u64 0], .int .u64 (u : Int), .int .i64 acc] w3 fun e w' => e = .returned (.tuple #[.agg #[.int .i64 0, .int .u64 0, .bool false, .bool false, .bool false, .bool false, .bool false, .bool false], .agg #[.int .i64 2, .int .i64 1, .int .i64 (lv : Int), .int .u64 ((lv : Int) * 4096 + 8 * (pg : Int)), .bool st], .int .i64 (N1 : Int)]) ∧ Hid (WW w0 (fun i => False ∨ w2.heap.size ≤ i ∧ i < w2.heap.size + 2) p 149 (thr1 lv) w' ∧ Fr (OuX w0 (fun i => False ∨ w2.heap.size ≤ i ∧ i < w2.heap.size + 2)) w3 w') := by
      have := won_any H3.out.1 4096 0 u acc (by decide) HU.out.2 (by decide) (by decide) (by decide) _ _ _ HC.out.2.1
      have e : (((lv * 4096 + 8 * pg : Nat)) : Int) = ((lv : Int) * 4096 + 8 * (pg : Int)) := by omega
      unfold faV at this
      rw [show ((⟨2, 1, (lv : Int), lv * 4096 + 8 * pg, st⟩ : FV).a : Int) = ((lv : Int) * 4096 + 8 * (pg : Int)) from e] at this
      exact this
    go_wp2_with fail
    with_reducible refine k3.mono ?_
    rintro _ w4 ⟨rfl, H4⟩
    have K4 : Kp w4 ((w4.alloc (.cells #[.int .i64 0, .int .u64 0, .bool false, .bool false, .bool false, .bool false, .bool false, .bool false] 31)).alloc (.cells #[.int .i64 2, .int .i64 1, .int .i64 (lv : Int), .int .u64 ((lv : Int) * 4096 + 8 * (pg : Int)), .bool st] 33)) := ((Kp.refl w4).alloc _).alloc _
    have R4 := (R3.fr H4.out.2 (fun c => c.2 (.inr ⟨Nat.le_refl _, by omega⟩))).kp K4
    have F4 := (F3.fr H4.out.2 (fun c => c.2 (.inr ⟨by omega, by omega⟩))).kp K4
    have W4 := H4.out.1.kp K4
    obtain ⟨v4, he4⟩ : ∃ v, v = (w4.alloc (.cells #[.int .i64 0, .int .u64 0, .bool false, .bool false, .bool false, .bool false, .bool false, .bool false] 31)).alloc (.cells #[.int .i64 2, .int .i64 1, .int .i64 (lv : Int), .int .u64 ((lv : Int) * 4096 + 8 * (pg : Int)), .bool st] 33) := ⟨_, rfl⟩
    rw [← he4] at R4 F4 W4
    have HW4 : Hid (WW w0 (fun i => False ∨ w2.heap.size ≤ i ∧ i < w2.heap.size + 2) p 149 (thr1 lv) v4) := W4
    clear k3 d0 d1 d2 H3 H4 R3 F3 W4 K4
    have q0 : ∀ v : World, (Op.equalIn 10000 33 (.agg #[.int .i64 2, .int .i64 1, .int .i64 (lv : Int), .int .u64 ((lv : Int) * 4096 + 8 * (pg : Int)), .bool st]) (.agg #[.int .i64 2, .int .i64 1, .int .i64 (lv : Int), .int .u64 ((lv : Int) * 4096 + 8 * (pg : Int)), .bool st])).run Try.prog v = .ok true v := fun v => by rw [eq_fault]; simp
    have kf := fun w => lframe_any lv (by have := HU.out.1; omega) w
    go_wp2_with fail
    rw [← he4]
    clear he4
    with_reducible refine (kf _).mono ?_
    rintro _ w' ⟨rfl, rfl⟩
    generalize hfr : frN lv = fr at *
    have k5 : Calls Try.prog 19 #[.pointer (some ⟨p, 0, none⟩), .int .i64 (fr : Int)] w' fun e w5 => e = .returned (.tuple #[.slice (some ⟨w'.heap.size, 0, none⟩) 4096 4096, .int .i64 0]) ∧ Hid (WC w0 (fun i => False ∨ w2.heap.size ≤ i ∧ i < w2.heap.size + 2) p 149 (thr1 lv) fr w'.heap.size w5 ∧ Kp w' w5) := HW4.out.get fr (by have := frN_lt lv; omega)
    go_wp2_with fail
    with_reducible refine k5.mono ?_
    rintro _ w5 ⟨rfl, H5⟩
    have R5 := R4.kp H5.out.2; have F5 := F4.kp H5.out.2
    have k6 : Calls Try.prog 21 #[.pointer (some ⟨p, 0, none⟩), .int .i64 36, .slice (some ⟨w'.heap.size, 0, none⟩) 4096 4096] w5 fun e w6 => e = .returned (.int .i64 0) ∧ Hid (WW w0 (fun i => False ∨ w2.heap.size ≤ i ∧ i < w2.heap.size + 2) p 149 (cpM (thr1 lv) 36 fr) w6 ∧ Fr (OuX w0 (fun i => False ∨ w2.heap.size ≤ i ∧ i < w2.heap.size + 2)) w5 w6) := H5.out.1.set 36 (by decide)
    clear k5 H5 R4 F4 HW4
    go_wp2_with fail
    with_reducible refine k6.mono ?_
    rintro _ w6 ⟨rfl, H6⟩
    have R6 := R5.fr H6.out.2 (fun c => c.2 (.inr ⟨Nat.le_refl _, by omega⟩))
    have F6 := F5.fr H6.out.2 (fun c => c.2 (.inr ⟨by omega, by omega⟩))
    have k7 : Calls Try.prog 22 #[.pointer (some ⟨p, 0, none⟩), .int .i64 (fr : Int)] w6 fun e w7 => e = .returned (.int .i64 0) ∧ Hid (WW w0 (fun i => False ∨ w2.heap.size ≤ i ∧ i < w2.heap.size + 2) p 149 (zerM (cpM (thr1 lv) 36 fr) fr) w7 ∧ Fr (OuX w0 (fun i => False ∨ w2.heap.size ≤ i ∧ i < w2.heap.size + 2)) w6 w7) := H6.out.1.zero fr (by have := frN_lt lv; omega)
    clear k6 H6 R5 F5
    go_wp2_with fail
    with_reducible refine (kf _).mono ?_
    rintro _ w'' ⟨rfl, rfl⟩
    go_wp2_with fail
    with_reducible refine k7.mono ?_
    rintro _ w7 ⟨rfl, H7⟩
    have R7 := R6.fr H7.out.2 (fun c => c.2 (.inr ⟨Nat.le_refl _, by omega⟩))
    have F7 := F6.fr H7.out.2 (fun c => c.2 (.inr ⟨by omega, by omega⟩))
    have kd : ∀ w, Calls Try.prog 23 #[.int .i64 2, .int .i64 3, .agg #[.int .i64 3, .int .u64 147456, .bool true, .bool false, .bool false, .int .i64 0]] w fun e w' => e = .returned (.int .u64 (dencN 2 3 3 147456 true false false 0 : Nat)) ∧ Kp w w' := fun w => lword_any 2 3 3 147456 true false false 0 w
    clear k7 R6 F6 kf
    go_wp2_with fail
    with_reducible refine (kd _).mono ?_
    rintro _ w8 ⟨rfl, K8⟩
    have R8 := R7.kp K8; have F8 := F7.kp K8
    have HW8 : Hid (WW w0 (fun i => False ∨ w2.heap.size ≤ i ∧ i < w2.heap.size + 2) p 149 (zerM (cpM (thr1 lv) 36 fr) fr) w8) := H7.out.1.kp K8
    have k9 : Calls Try.prog 18 #[.pointer (some ⟨p, 0, none⟩), .int .u64 (16384 + (lv : Int) * 8), .int .i64 8, .int .u64 (dencN 2 3 3 147456 true false false 0 : Nat)] w8 fun e w' => e = .returned (.int .i64 0) ∧ Hid (WW w0 (fun i => False ∨ w2.heap.size ≤ i ∧ i < w2.heap.size + 2) p 150 (thr2 lv) w' ∧ Fr (OuX w0 (fun i => False ∨ w2.heap.size ≤ i ∧ i < w2.heap.size + 2)) w8 w') := by
      have := HW8.out.write 4 lv (dencN 2 3 3 147456 true false false 0) (by decide) (by have := HU.out.1; omega) (den_lt _ _ _ _ _ _ _ _) (by decide)
      rw [show ((4 * 4096 + 8 * lv : Nat) : Int) = 16384 + (lv : Int) * 8 by omega] at this
      unfold thr2
      rw [hfr]
      exact this
    generalize dencN 2 3 3 147456 true false false 0 = dw at *
    clear kd H7 K8 R7 F7
    go_wp2_with fail
    with_reducible refine k9.mono ?_
    rintro _ w9 ⟨rfl, H9⟩
    have R9 := R8.fr H9.out.2 (fun c => c.2 (.inr ⟨Nat.le_refl _, by omega⟩))
    have F9 := F8.fr H9.out.2 (fun c => c.2 (.inr ⟨by omega, by omega⟩))
    have VB9 := VB.kp H9.out.1.k
    have d0 := VB9.cell (j := 0) rfl; have d1 := VB9.cell (j := 1) rfl; have d2 := VB9.cell (j := 2) rfl
    have kA : Calls Try.prog 15 #[.pointer (some ⟨p, 0, none⟩), .agg #[.int .u64 4096, .bool true, .int .u64 0], .int .u64 (u : Int), .int .i64 acc] w9 fun e w' => e = .returned (.tuple #[.agg #[.int .i64 oF, .int .u64 (oI : Int), .bool oa, .bool ob, .bool oc, .bool or', .bool oq, .bool ox], .agg #[.int .i64 fs, .int .i64 fk, .int .i64 fl, .int .u64 (fa : Int), .bool ft], .int .i64 (N : Int)]) ∧ Hid (WW w0 (fun i => False ∨ w2.heap.size ≤ i ∧ i < w2.heap.size + 2) p 174 (thr2 lv) w' ∧ Fr (OuX w0 (fun i => False ∨ w2.heap.size ≤ i ∧ i < w2.heap.size + 2)) w9 w') := won_any H9.out.1 4096 0 u acc (by decide) HU.out.2 (by decide) (by decide) (by decide) _ _ _ HC.out.2.2
    clear k9 HW8 R8 F8 VB9
    go_wp2_with fail
    with_reducible refine kA.mono ?_
    rintro _ wA ⟨rfl, HA⟩
    have KA := box2_kp wA ⟨oF, oI, oa, ob, oc, or', oq, ox⟩ ⟨fs, fk, fl, fa, ft⟩
    have RA := (R9.fr HA.out.2 (fun c => c.2 (.inr ⟨Nat.le_refl _, by omega⟩))).kp KA
    have FA := (F9.fr HA.out.2 (fun c => c.2 (.inr ⟨by omega, by omega⟩))).kp KA
    have PA := box2_o wA ⟨oF, oI, oa, ob, oc, or', oq, ox⟩ ⟨fs, fk, fl, fa, ft⟩
    have QA := box2_f wA ⟨oF, oI, oa, ob, oc, or', oq, ox⟩ ⟨fs, fk, fl, fa, ft⟩
    have KW := (HA.out.1.kp KA).k
    obtain ⟨vA, hvA⟩ : ∃ v, v = box2 wA ⟨oF, oI, oa, ob, oc, or', oq, ox⟩ ⟨fs, fk, fl, fa, ft⟩ := ⟨_, rfl⟩
    rw [← hvA] at RA FA PA QA KW
    have heA : vA = (wA.alloc (.cells #[.int .i64 oF, .int .u64 (oI : Int), .bool oa, .bool ob, .bool oc, .bool or', .bool oq, .bool ox] 31)).alloc (.cells #[.int .i64 fs, .int .i64 fk, .int .i64 fl, .int .u64 (fa : Int), .bool ft] 33) := hvA
    clear hvA HA KA kA d0 d1 d2 H9 R9 F9
    go_wp2_with fail
    rw [← heA]
    clear heA
    with_reducible refine (kt _).mono ?_
    rintro _ wB ⟨rfl, KB⟩
    have RB := RA.kp KB; have FB := FA.kp KB; have PB := PA.kp KB; have QB := QA.kp KB
    have a0 := RB.cell (j := 0) rfl; have a1 := RB.cell (j := 1) rfl; have a2 := RB.cell (j := 2) rfl; have a3 := RB.cell (j := 3) rfl; have a4 := RB.cell (j := 4) rfl; have a5 := RB.cell (j := 5) rfl; have a6 := RB.cell (j := 6) rfl; have a7 := RB.cell (j := 7) rfl
    have b0 := FB.cell (j := 0) rfl; have b1 := FB.cell (j := 1) rfl; have b2 := FB.cell (j := 2) rfl; have b3 := FB.cell (j := 3) rfl; have b4 := FB.cell (j := 4) rfl
    have c0 := PB.cell (j := 0) rfl; have c1 := PB.cell (j := 1) rfl; have c2 := PB.cell (j := 2) rfl; have c3 := PB.cell (j := 3) rfl; have c4 := PB.cell (j := 4) rfl; have c5 := PB.cell (j := 5) rfl; have c6 := PB.cell (j := 6) rfl; have c7 := PB.cell (j := 7) rfl
    have e0 := QB.cell (j := 0) rfl; have e1 := QB.cell (j := 1) rfl; have e2 := QB.cell (j := 2) rfl; have e3 := QB.cell (j := 3) rfl; have e4 := QB.cell (j := 4) rfl
    have HK : Hid (Kp w wB) := (HW0.out.trans KW).trans KB
    have q1 : ∀ v : World, (Op.equalIn 10000 31 (.agg #[.int .i64 oF, .int .u64 (oI : Int), .bool oa, .bool ob, .bool oc, .bool or', .bool oq, .bool ox]) (.agg #[.int .i64 oF, .int .u64 (oI : Int), .bool oa, .bool ob, .bool oc, .bool or', .bool oq, .bool ox])).run Try.prog v = .ok true v := fun v => by rw [eq_out]; simp [samP]
    have q2 : ∀ v : World, (Op.equalIn 10000 33 (.agg #[.int .i64 fs, .int .i64 fk, .int .i64 fl, .int .u64 (fa : Int), .bool ft]) (.agg #[.int .i64 fs, .int .i64 fk, .int .i64 fl, .int .u64 (fa : Int), .bool ft])).run Try.prog v = .ok true v := fun v => by rw [eq_fault]; simp
    clear RA FA PA QA KW KB RB FB PB QB kt q0 VB
    go_wp2
    go_ret
    exact ⟨rfl, HK.out⟩
  · have g1 : ((lv : Int) == 3) = false := by rw [beq_eq_false_iff_ne]; omega
    rw [if_neg c, Nat.mul_zero, Nat.add_zero] at c1
    have HC : Hid (onC (rdM (lay3 16)) 4096 0 u acc ⟨oF, oI, oa, ob, oc, or', oq, ox⟩ ⟨fs, fk, fl, fa, ft⟩ N ∧ onC (rdM (thr1 lv)) 4096 0 u acc zO ⟨2, 1, (lv : Int), lv * 4096, st⟩ N1 ∧ onC (rdM (thr2 lv)) 4096 0 u acc ⟨oF, oI, oa, ob, oc, or', oq, ox⟩ ⟨fs, fk, fl, fa, ft⟩ N) := ⟨c0, c1, c2⟩
    clear c0 c1 c2 z1 z2 z4 z5 z7 hN1
    go_enter Try.func6, Try.ntmps6
    go_wp2_with fail
    with_reducible refine kw.mono ?_
    rintro e v1 ⟨p, rfl, H1⟩
    clear kw
    rw [show w.alloc (.cells #[.int .u64 4096, .bool true, .int .u64 0] 45) = w0 from hw0.symm] at *
    have d0 := (VB.kp H1.out.k).cell (j := 0) rfl; have d1 := (VB.kp H1.out.k).cell (j := 1) rfl; have d2 := (VB.kp H1.out.k).cell (j := 2) rfl
    have k1 : Calls Try.prog 15 #[.pointer (some ⟨p, 0, none⟩), .agg #[.int .u64 4096, .bool true, .int .u64 0], .int .u64 (u : Int), .int .i64 acc] v1 fun e w' => e = .returned (.tuple #[.agg #[.int .i64 oF, .int .u64 (oI : Int), .bool oa, .bool ob, .bool oc, .bool or', .bool oq, .bool ox], .agg #[.int .i64 fs, .int .i64 fk, .int .i64 fl, .int .u64 (fa : Int), .bool ft], .int .i64 (N : Int)]) ∧ Hid (WW w0 (fun _ => False) p 124 (lay3 16) w') := (won_any H1.out 4096 0 u acc (by decide) HU.out.2 (by decide) (by decide) (by decide) _ _ _ HC.out.1).mono fun e w' ⟨e1, e2, _⟩ => ⟨e1, e2⟩
    go_wp2_with fail
    with_reducible refine k1.mono ?_
    rintro _ w2 ⟨rfl, H2⟩
    clear k1 d0 d1 d2 H1
    have R2 := box2_o w2 ⟨oF, oI, oa, ob, oc, or', oq, ox⟩ ⟨fs, fk, fl, fa, ft⟩
    have F2 := box2_f w2 ⟨oF, oI, oa, ob, oc, or', oq, ox⟩ ⟨fs, fk, fl, fa, ft⟩
    have W2 := H2.out.boxes ⟨oF, oI, oa, ob, oc, or', oq, ox⟩ ⟨fs, fk, fl, fa, ft⟩
    obtain ⟨v2, hv2⟩ : ∃ v, v = box2 w2 ⟨oF, oI, oa, ob, oc, or', oq, ox⟩ ⟨fs, fk, fl, fa, ft⟩ := ⟨_, rfl⟩
    rw [← hv2] at R2 F2 W2
    have he2 : v2 = (w2.alloc (.cells #[.int .i64 oF, .int .u64 (oI : Int), .bool oa, .bool ob, .bool oc, .bool or', .bool oq, .bool ox] 31)).alloc (.cells #[.int .i64 fs, .int .i64 fk, .int .i64 fl, .int .u64 (fa : Int), .bool ft] 33) := hv2
    have HW2 : Hid (WW w0 (fun i => False ∨ w2.heap.size ≤ i ∧ i < w2.heap.size + 2) p 124 (lay3 16) v2) := W2
    clear hv2 H2 W2
    have k2 : Calls Try.prog 18 #[.pointer (some ⟨p, 0, none⟩), .int .u64 (16384 + (lv : Int) * 8), .int .i64 8, .int .u64 0] v2 fun e w' => e = .returned (.int .i64 0) ∧ Hid (WW w0 (fun i => False ∨ w2.heap.size ≤ i ∧ i < w2.heap.size + 2) p 125 (thr1 lv) w' ∧ Fr (OuX w0 (fun i => False ∨ w2.heap.size ≤ i ∧ i < w2.heap.size + 2)) v2 w') := by
      have := HW2.out.write 4 lv 0 (by decide) (by have := HU.out.1; omega) (by decide) (by decide)
      rw [show ((4 * 4096 + 8 * lv : Nat) : Int) = 16384 + (lv : Int) * 8 by omega] at this
      exact this
    go_wp2_with fail
    rw [← he2]
    clear he2
    with_reducible refine k2.mono ?_
    rintro _ w3 ⟨rfl, H3⟩
    have R3 := R2.fr H3.out.2 (fun c => c.2 (.inr ⟨Nat.le_refl _, by omega⟩))
    have F3 := F2.fr H3.out.2 (fun c => c.2 (.inr ⟨by omega, by omega⟩))
    have VB3 := VB.kp H3.out.1.k
    have d0 := VB3.cell (j := 0) rfl; have d1 := VB3.cell (j := 1) rfl; have d2 := VB3.cell (j := 2) rfl
    clear k2 R2 F2 HW2 VB3
    have k3 : Calls Try.prog 15 #[.pointer (some ⟨p, 0, none⟩), .agg #[.int .u64 4096, .bool true, .int .u64 0], .int .u64 (u : Int), .int .i64 acc] w3 fun e w' => e = .returned (.tuple #[.agg #[.int .i64 0, .int .u64 0, .bool false, .bool false, .bool false, .bool false, .bool false, .bool false], .agg #[.int .i64 2, .int .i64 1, .int .i64 (lv : Int), .int .u64 ((lv : Int) * 4096), .bool st], .int .i64 (N1 : Int)]) ∧ Hid (WW w0 (fun i => False ∨ w2.heap.size ≤ i ∧ i < w2.heap.size + 2) p 149 (thr1 lv) w' ∧ Fr (OuX w0 (fun i => False ∨ w2.heap.size ≤ i ∧ i < w2.heap.size + 2)) w3 w') := by
      have := won_any H3.out.1 4096 0 u acc (by decide) HU.out.2 (by decide) (by decide) (by decide) _ _ _ HC.out.2.1
      have e : (((lv * 4096 : Nat)) : Int) = ((lv : Int) * 4096) := by omega
      unfold faV at this
      rw [show ((⟨2, 1, (lv : Int), lv * 4096, st⟩ : FV).a : Int) = ((lv : Int) * 4096) from e] at this
      exact this
    go_wp2_with fail
    with_reducible refine k3.mono ?_
    rintro _ w4 ⟨rfl, H4⟩
    have K4 : Kp w4 ((w4.alloc (.cells #[.int .i64 0, .int .u64 0, .bool false, .bool false, .bool false, .bool false, .bool false, .bool false] 31)).alloc (.cells #[.int .i64 2, .int .i64 1, .int .i64 (lv : Int), .int .u64 ((lv : Int) * 4096), .bool st] 33)) := ((Kp.refl w4).alloc _).alloc _
    have R4 := (R3.fr H4.out.2 (fun c => c.2 (.inr ⟨Nat.le_refl _, by omega⟩))).kp K4
    have F4 := (F3.fr H4.out.2 (fun c => c.2 (.inr ⟨by omega, by omega⟩))).kp K4
    have W4 := H4.out.1.kp K4
    obtain ⟨v4, he4⟩ : ∃ v, v = (w4.alloc (.cells #[.int .i64 0, .int .u64 0, .bool false, .bool false, .bool false, .bool false, .bool false, .bool false] 31)).alloc (.cells #[.int .i64 2, .int .i64 1, .int .i64 (lv : Int), .int .u64 ((lv : Int) * 4096), .bool st] 33) := ⟨_, rfl⟩
    rw [← he4] at R4 F4 W4
    have HW4 : Hid (WW w0 (fun i => False ∨ w2.heap.size ≤ i ∧ i < w2.heap.size + 2) p 149 (thr1 lv) v4) := W4
    clear k3 d0 d1 d2 H3 H4 R3 F3 W4 K4
    have q0 : ∀ v : World, (Op.equalIn 10000 33 (.agg #[.int .i64 2, .int .i64 1, .int .i64 (lv : Int), .int .u64 ((lv : Int) * 4096), .bool st]) (.agg #[.int .i64 2, .int .i64 1, .int .i64 (lv : Int), .int .u64 ((lv : Int) * 4096), .bool st])).run Try.prog v = .ok true v := fun v => by rw [eq_fault]; simp
    have kf := fun w => lframe_any lv (by have := HU.out.1; omega) w
    go_wp2_with fail
    rw [← he4]
    clear he4
    with_reducible refine (kf _).mono ?_
    rintro _ w' ⟨rfl, rfl⟩
    generalize hfr : frN lv = fr at *
    have k5 : Calls Try.prog 19 #[.pointer (some ⟨p, 0, none⟩), .int .i64 (fr : Int)] w' fun e w5 => e = .returned (.tuple #[.slice (some ⟨w'.heap.size, 0, none⟩) 4096 4096, .int .i64 0]) ∧ Hid (WC w0 (fun i => False ∨ w2.heap.size ≤ i ∧ i < w2.heap.size + 2) p 149 (thr1 lv) fr w'.heap.size w5 ∧ Kp w' w5) := HW4.out.get fr (by have := frN_lt lv; omega)
    go_wp2_with fail
    with_reducible refine k5.mono ?_
    rintro _ w5 ⟨rfl, H5⟩
    have R5 := R4.kp H5.out.2; have F5 := F4.kp H5.out.2
    have k6 : Calls Try.prog 21 #[.pointer (some ⟨p, 0, none⟩), .int .i64 36, .slice (some ⟨w'.heap.size, 0, none⟩) 4096 4096] w5 fun e w6 => e = .returned (.int .i64 0) ∧ Hid (WW w0 (fun i => False ∨ w2.heap.size ≤ i ∧ i < w2.heap.size + 2) p 149 (cpM (thr1 lv) 36 fr) w6 ∧ Fr (OuX w0 (fun i => False ∨ w2.heap.size ≤ i ∧ i < w2.heap.size + 2)) w5 w6) := H5.out.1.set 36 (by decide)
    clear k5 H5 R4 F4 HW4
    go_wp2_with fail
    with_reducible refine k6.mono ?_
    rintro _ w6 ⟨rfl, H6⟩
    have R6 := R5.fr H6.out.2 (fun c => c.2 (.inr ⟨Nat.le_refl _, by omega⟩))
    have F6 := F5.fr H6.out.2 (fun c => c.2 (.inr ⟨by omega, by omega⟩))
    have k7 : Calls Try.prog 22 #[.pointer (some ⟨p, 0, none⟩), .int .i64 (fr : Int)] w6 fun e w7 => e = .returned (.int .i64 0) ∧ Hid (WW w0 (fun i => False ∨ w2.heap.size ≤ i ∧ i < w2.heap.size + 2) p 149 (zerM (cpM (thr1 lv) 36 fr) fr) w7 ∧ Fr (OuX w0 (fun i => False ∨ w2.heap.size ≤ i ∧ i < w2.heap.size + 2)) w6 w7) := H6.out.1.zero fr (by have := frN_lt lv; omega)
    clear k6 H6 R5 F5
    go_wp2_with fail
    with_reducible refine (kf _).mono ?_
    rintro _ w'' ⟨rfl, rfl⟩
    go_wp2_with fail
    with_reducible refine k7.mono ?_
    rintro _ w7 ⟨rfl, H7⟩
    have R7 := R6.fr H7.out.2 (fun c => c.2 (.inr ⟨Nat.le_refl _, by omega⟩))
    have F7 := F6.fr H7.out.2 (fun c => c.2 (.inr ⟨by omega, by omega⟩))
    have kd : ∀ w, Calls Try.prog 23 #[.int .i64 2, .int .i64 3, .agg #[.int .i64 3, .int .u64 147456, .bool true, .bool false, .bool false, .int .i64 0]] w fun e w' => e = .returned (.int .u64 (dencN 2 3 3 147456 true false false 0 : Nat)) ∧ Kp w w' := fun w => lword_any 2 3 3 147456 true false false 0 w
    clear k7 R6 F6 kf
    go_wp2_with fail
    with_reducible refine (kd _).mono ?_
    rintro _ w8 ⟨rfl, K8⟩
    have R8 := R7.kp K8; have F8 := F7.kp K8
    have HW8 : Hid (WW w0 (fun i => False ∨ w2.heap.size ≤ i ∧ i < w2.heap.size + 2) p 149 (zerM (cpM (thr1 lv) 36 fr) fr) w8) := H7.out.1.kp K8
    have k9 : Calls Try.prog 18 #[.pointer (some ⟨p, 0, none⟩), .int .u64 (16384 + (lv : Int) * 8), .int .i64 8, .int .u64 (dencN 2 3 3 147456 true false false 0 : Nat)] w8 fun e w' => e = .returned (.int .i64 0) ∧ Hid (WW w0 (fun i => False ∨ w2.heap.size ≤ i ∧ i < w2.heap.size + 2) p 150 (thr2 lv) w' ∧ Fr (OuX w0 (fun i => False ∨ w2.heap.size ≤ i ∧ i < w2.heap.size + 2)) w8 w') := by
      have := HW8.out.write 4 lv (dencN 2 3 3 147456 true false false 0) (by decide) (by have := HU.out.1; omega) (den_lt _ _ _ _ _ _ _ _) (by decide)
      rw [show ((4 * 4096 + 8 * lv : Nat) : Int) = 16384 + (lv : Int) * 8 by omega] at this
      unfold thr2
      rw [hfr]
      exact this
    generalize dencN 2 3 3 147456 true false false 0 = dw at *
    clear kd H7 K8 R7 F7
    go_wp2_with fail
    with_reducible refine k9.mono ?_
    rintro _ w9 ⟨rfl, H9⟩
    have R9 := R8.fr H9.out.2 (fun c => c.2 (.inr ⟨Nat.le_refl _, by omega⟩))
    have F9 := F8.fr H9.out.2 (fun c => c.2 (.inr ⟨by omega, by omega⟩))
    have VB9 := VB.kp H9.out.1.k
    have d0 := VB9.cell (j := 0) rfl; have d1 := VB9.cell (j := 1) rfl; have d2 := VB9.cell (j := 2) rfl
    have kA : Calls Try.prog 15 #[.pointer (some ⟨p, 0, none⟩), .agg #[.int .u64 4096, .bool true, .int .u64 0], .int .u64 (u : Int), .int .i64 acc] w9 fun e w' => e = .returned (.tuple #[.agg #[.int .i64 oF, .int .u64 (oI : Int), .bool oa, .bool ob, .bool oc, .bool or', .bool oq, .bool ox], .agg #[.int .i64 fs, .int .i64 fk, .int .i64 fl, .int .u64 (fa : Int), .bool ft], .int .i64 (N : Int)]) ∧ Hid (WW w0 (fun i => False ∨ w2.heap.size ≤ i ∧ i < w2.heap.size + 2) p 174 (thr2 lv) w' ∧ Fr (OuX w0 (fun i => False ∨ w2.heap.size ≤ i ∧ i < w2.heap.size + 2)) w9 w') := won_any H9.out.1 4096 0 u acc (by decide) HU.out.2 (by decide) (by decide) (by decide) _ _ _ HC.out.2.2
    clear k9 HW8 R8 F8 VB9
    go_wp2_with fail
    with_reducible refine kA.mono ?_
    rintro _ wA ⟨rfl, HA⟩
    have KA := box2_kp wA ⟨oF, oI, oa, ob, oc, or', oq, ox⟩ ⟨fs, fk, fl, fa, ft⟩
    have RA := (R9.fr HA.out.2 (fun c => c.2 (.inr ⟨Nat.le_refl _, by omega⟩))).kp KA
    have FA := (F9.fr HA.out.2 (fun c => c.2 (.inr ⟨by omega, by omega⟩))).kp KA
    have PA := box2_o wA ⟨oF, oI, oa, ob, oc, or', oq, ox⟩ ⟨fs, fk, fl, fa, ft⟩
    have QA := box2_f wA ⟨oF, oI, oa, ob, oc, or', oq, ox⟩ ⟨fs, fk, fl, fa, ft⟩
    have KW := (HA.out.1.kp KA).k
    obtain ⟨vA, hvA⟩ : ∃ v, v = box2 wA ⟨oF, oI, oa, ob, oc, or', oq, ox⟩ ⟨fs, fk, fl, fa, ft⟩ := ⟨_, rfl⟩
    rw [← hvA] at RA FA PA QA KW
    have heA : vA = (wA.alloc (.cells #[.int .i64 oF, .int .u64 (oI : Int), .bool oa, .bool ob, .bool oc, .bool or', .bool oq, .bool ox] 31)).alloc (.cells #[.int .i64 fs, .int .i64 fk, .int .i64 fl, .int .u64 (fa : Int), .bool ft] 33) := hvA
    clear hvA HA KA kA d0 d1 d2 H9 R9 F9
    go_wp2_with fail
    rw [← heA]
    clear heA
    with_reducible refine (kt _).mono ?_
    rintro _ wB ⟨rfl, KB⟩
    have RB := RA.kp KB; have FB := FA.kp KB; have PB := PA.kp KB; have QB := QA.kp KB
    have a0 := RB.cell (j := 0) rfl; have a1 := RB.cell (j := 1) rfl; have a2 := RB.cell (j := 2) rfl; have a3 := RB.cell (j := 3) rfl; have a4 := RB.cell (j := 4) rfl; have a5 := RB.cell (j := 5) rfl; have a6 := RB.cell (j := 6) rfl; have a7 := RB.cell (j := 7) rfl
    have b0 := FB.cell (j := 0) rfl; have b1 := FB.cell (j := 1) rfl; have b2 := FB.cell (j := 2) rfl; have b3 := FB.cell (j := 3) rfl; have b4 := FB.cell (j := 4) rfl
    have c0 := PB.cell (j := 0) rfl; have c1 := PB.cell (j := 1) rfl; have c2 := PB.cell (j := 2) rfl; have c3 := PB.cell (j := 3) rfl; have c4 := PB.cell (j := 4) rfl; have c5 := PB.cell (j := 5) rfl; have c6 := PB.cell (j := 6) rfl; have c7 := PB.cell (j := 7) rfl
    have e0 := QB.cell (j := 0) rfl; have e1 := QB.cell (j := 1) rfl; have e2 := QB.cell (j := 2) rfl; have e3 := QB.cell (j := 3) rfl; have e4 := QB.cell (j := 4) rfl
    have HK : Hid (Kp w wB) := (HW0.out.trans KW).trans KB
    have q1 : ∀ v : World, (Op.equalIn 10000 31 (.agg #[.int .i64 oF, .int .u64 (oI : Int), .bool oa, .bool ob, .bool oc, .bool or', .bool oq, .bool ox]) (.agg #[.int .i64 oF, .int .u64 (oI : Int), .bool oa, .bool ob, .bool oc, .bool or', .bool oq, .bool ox])).run Try.prog v = .ok true v := fun v => by rw [eq_out]; simp [samP]
    have q2 : ∀ v : World, (Op.equalIn 10000 33 (.agg #[.int .i64 fs, .int .i64 fk, .int .i64 fl, .int .u64 (fa : Int), .bool ft]) (.agg #[.int .i64 fs, .int .i64 fk, .int .i64 fl, .int .u64 (fa : Int), .bool ft])).run Try.prog v = .ok true v := fun v => by rw [eq_fault]; simp
    clear RA FA PA QA KW KB RB FB PB QB kt q0 VB
    go_wp2
    go_ret
    exact ⟨rfl, HK.out⟩

theorem through_law (level va access : Int) (w : World) (hv : (Lit.int .u64 va).wf = true) :
    Calls Try.prog 6 #[.int .i64 level, .int .u64 va, .int .i64 access] w fun e w' => e = .returned (.bool true) ∧ Kp w w' := by
  obtain ⟨h1, h2⟩ := wf_word hv
  obtain ⟨u, rfl⟩ := Int.eq_ofNat_of_zero_le h1
  obtain ⟨lv, e1, l1⟩ := and_lim level 3 (by decide)
  obtain ⟨m3, e3, l3⟩ := and_lim access 3 (by decide)
  exact through_walk level access u (u % 65536) lv m3 (m3 % 3) (u % 65536 / 4096) w e1 l1 (by omega) (by rw [Int.tmod_eq_emod_of_nonneg (by omega)]; omega) (by omega) e3 l3 (by rw [Int.tmod_eq_emod_of_nonneg (by omega)]; omega) (by omega) (by omega) (by omega) (by rw [Int.tdiv_eq_ediv_of_nonneg (by omega)]; omega) rfl

end Go.Proofs.Ytaldekfaebkpkaa
