/- NestedSeconds. -/
import Derived.Test.YtaldekfaebkpkaaN2
namespace Go.Proofs.Ytaldekfaebkpkaa
open Go.RowKit
set_option maxRecDepth 10000
set_option linter.unusedVariables false

/-- The blocks of the document's answer. -/
def rbox2 (w : World) (o : OV) (f : FV) : World := (w.alloc (.cells (encO o).toArray 36)).alloc (.cells (encF f).toArray 33)
theorem rbox2_kp (w : World) (o : OV) (f : FV) : Kp w (rbox2 w o f) := ((Kp.refl w).alloc _).alloc _
theorem rbox2_o (w : World) (o : OV) (f : FV) : RX (rbox2 w o f) w.heap.size 36 (encO o) := (RX.made w _ _).kp ((Kp.refl _).alloc _)
theorem rbox2_f (w : World) (o : OV) (f : FV) : RX (rbox2 w o f) (w.heap.size + 1) 33 (encF f) := by
  have := RX.made (w.alloc (.cells (encO o).toArray 36)) 33 (encF f)
  rw [show (w.alloc (.cells (encO o).toArray 36)).heap.size = w.heap.size + 1 by simp] at this
  exact this

set_option maxHeartbeats 2000000 in
theorem nsame_any (o : OV) (f : FV) (n : Int) (w : World) : Calls Try.prog 13 #[ouV o, faV f, .int .i64 n, ouV o, faV f, .int .i64 n] w fun e w' => e = .returned (.bool true) ∧ Kp w w' := by
  obtain ⟨oF, oI, oa, ob, oc, or', oq, ox⟩ := o
  obtain ⟨fs, fk, fl, fa, ft⟩ := f
  obtain ⟨v, hv⟩ : ∃ v, v = rbox2 (box2 w ⟨oF, oI, oa, ob, oc, or', oq, ox⟩ ⟨fs, fk, fl, fa, ft⟩) ⟨oF, oI, oa, ob, oc, or', oq, ox⟩ ⟨fs, fk, fl, fa, ft⟩ := ⟨_, rfl⟩
  have K : Kp w v := by rw [hv]; exact (box2_kp w _ _).trans (rbox2_kp _ _ _)
  have A := (box2_o w ⟨oF, oI, oa, ob, oc, or', oq, ox⟩ ⟨fs, fk, fl, fa, ft⟩).kp (rbox2_kp _ ⟨oF, oI, oa, ob, oc, or', oq, ox⟩ ⟨fs, fk, fl, fa, ft⟩)
  have B := (box2_f w ⟨oF, oI, oa, ob, oc, or', oq, ox⟩ ⟨fs, fk, fl, fa, ft⟩).kp (rbox2_kp _ ⟨oF, oI, oa, ob, oc, or', oq, ox⟩ ⟨fs, fk, fl, fa, ft⟩)
  have C := rbox2_o (box2 w ⟨oF, oI, oa, ob, oc, or', oq, ox⟩ ⟨fs, fk, fl, fa, ft⟩) ⟨oF, oI, oa, ob, oc, or', oq, ox⟩ ⟨fs, fk, fl, fa, ft⟩
  have D := rbox2_f (box2 w ⟨oF, oI, oa, ob, oc, or', oq, ox⟩ ⟨fs, fk, fl, fa, ft⟩) ⟨oF, oI, oa, ob, oc, or', oq, ox⟩ ⟨fs, fk, fl, fa, ft⟩
  rw [← hv] at A B C D
  rw [box2_size] at C D
  have he : v = (((w.alloc (.cells #[.int .i64 oF, .int .u64 (oI : Int), .bool oa, .bool ob, .bool oc, .bool or', .bool oq, .bool ox] 31)).alloc (.cells #[.int .i64 fs, .int .i64 fk, .int .i64 fl, .int .u64 (fa : Int), .bool ft] 33)).alloc (.cells #[.int .i64 oF, .int .u64 (oI : Int), .bool oa, .bool ob, .bool oc, .bool or', .bool oq, .bool ox] 36)).alloc (.cells #[.int .i64 fs, .int .i64 fk, .int .i64 fl, .int .u64 (fa : Int), .bool ft] 33) := hv
  have a0 := A.cell (j := 0) rfl; have a1 := A.cell (j := 1) rfl; have a2 := A.cell (j := 2) rfl; have a3 := A.cell (j := 3) rfl; have a4 := A.cell (j := 4) rfl; have a5 := A.cell (j := 5) rfl; have a6 := A.cell (j := 6) rfl; have a7 := A.cell (j := 7) rfl
  have b0 := B.cell (j := 0) rfl; have b1 := B.cell (j := 1) rfl; have b2 := B.cell (j := 2) rfl; have b3 := B.cell (j := 3) rfl; have b4 := B.cell (j := 4) rfl
  have c0 := C.cell (j := 0) rfl; have c1 := C.cell (j := 1) rfl; have c2 := C.cell (j := 2) rfl; have c3 := C.cell (j := 3) rfl; have c4 := C.cell (j := 4) rfl; have c5 := C.cell (j := 5) rfl; have c6 := C.cell (j := 6) rfl; have c7 := C.cell (j := 7) rfl
  have d0 := D.cell (j := 0) rfl; have d1 := D.cell (j := 1) rfl; have d2 := D.cell (j := 2) rfl; have d3 := D.cell (j := 3) rfl; have d4 := D.cell (j := 4) rfl
  have q1 : ∀ v : World, (Op.equalIn 10000 31 (.agg #[.int .i64 oF, .int .u64 (oI : Int), .bool oa, .bool ob, .bool oc, .bool or', .bool oq, .bool ox]) (.agg #[.int .i64 oF, .int .u64 (oI : Int), .bool oa, .bool ob, .bool oc, .bool or', .bool oq, .bool ox])).run Try.prog v = .ok true v := fun v => by rw [eq_out]; simp [samP]
  have q2 : ∀ v : World, (Op.equalIn 10000 33 (.agg #[.int .i64 fs, .int .i64 fk, .int .i64 fl, .int .u64 (fa : Int), .bool ft]) (.agg #[.int .i64 fs, .int .i64 fk, .int .i64 fl, .int .u64 (fa : Int), .bool ft])).run Try.prog v = .ok true v := fun v => by rw [eq_fault]; simp
  have HK : Hid (Kp w v) := K
  clear A B C D hv K
  show Calls Try.prog 13 #[.agg #[.int .i64 oF, .int .u64 (oI : Int), .bool oa, .bool ob, .bool oc, .bool or', .bool oq, .bool ox], .agg #[.int .i64 fs, .int .i64 fk, .int .i64 fl, .int .u64 (fa : Int), .bool ft], .int .i64 n, .agg #[.int .i64 oF, .int .u64 (oI : Int), .bool oa, .bool ob, .bool oc, .bool or', .bool oq, .bool ox], .agg #[.int .i64 fs, .int .i64 fk, .int .i64 fl, .int .u64 (fa : Int), .bool ft], .int .i64 n] w fun e w' => e = .returned (.bool true) ∧ Kp w w'
  go_enter Try.func13, Try.ntmps13
  go_upto_region 1 with fail
  rw [← he]
  clear he
  go_wp2
  go_ret
  exact ⟨rfl, HK.out⟩

set_option maxHeartbeats 8000000 in
theorem seconds_walk (na : Option Addr) (n cap : Nat) (V : Nat → EV) (two ipa tm im : Nat) (acc : Int) (w : World) (H : ES w na n V) (ht : two < 18446744073709551616) (hi : ipa < 18446744073709551616) (y1 : bits .and .u64 (two : Int) 28672 = (tm : Int)) (z1 : tm ≤ 28672) (y2 : (ipa : Int) % 131072 = (im : Int)) (y3 : (ipa : Int).tmod 131072 = (im : Int)) (z2 : im < 131072) :
    Calls Try.prog 3 #[.slice na n cap, .int .u64 (two : Int), .int .u64 (ipa : Int), .int .i64 acc] w fun e w' => e = .returned (.bool true) ∧ Kp w w' := by
  have kw := world_any na n cap V w H
  have kt := ltold_any
  have HB : Hid (two < 18446744073709551616 ∧ ipa < 18446744073709551616 ∧ tm < 18446744073709551616 ∧ im < 18446744073709551616) := ⟨ht, hi, by omega, Nat.lt_trans z2 (by decide)⟩
  obtain ⟨st, hst⟩ : ∃ st, (acc == 2) = st := ⟨_, rfl⟩
  clear H ht hi z1 z2
  go_enter Try.func3, Try.ntmps3
  go_wp2_with fail
  with_reducible refine kw.mono ?_
  rintro e v1 ⟨p, M, rfl, H1, _⟩
  clear kw
  have HW : Hid (WW w (fun _ => False) p 100 M v1) := H1
  clear H1
  go_wp2_with fail
  go_loopg [11] 5 (fun g v11 wr => ∃ i : Nat, v11 = .int .i64 (i : Int) ∧ i ≤ 3 ∧ 4 - i ≤ g ∧ Hid (WW w (fun _ => False) p (100 + 4 * i) M wr))
  case atStart => exact ⟨0, rfl, by omega, by omega, HW⟩
  case round =>
    clear HW
    obtain ⟨i, rfl, hi, hg, HI⟩ := hrel
    by_cases ei : i < 3
    · have zi : (i : Int) < 3 := by omega
      go_upto_region 7 with fail
      go_cut [12, 13] (fun v12 v13 wx => ∃ (ad rt : Nat), v12 = .int .u64 (ad : Int) ∧ v13 = .int .u64 (rt : Int) ∧ Hid (ad < 18446744073709551616 ∧ rt < 18446744073709551616 ∧ WW w (fun _ => False) p (100 + 4 * i) M wx))
      case first =>
        clear kt hst
        rcases (by omega : i = 0 ∨ i = 1 ∨ i = 2) with rfl | rfl | rfl
        · rw [show ((0 : Nat) : Int) = 0 from rfl]
          go_region
          all_goals
            go_wp2
            go_meet
            exact ⟨ipa, two, rfl, rfl, HB.out.2.1, HB.out.1, HI.out.kp (by first | exact ((Kp.refl _).alloc _).alloc _ | exact (((Kp.refl _).alloc _).alloc _).drew | exact (((Kp.refl _).alloc _).drew).alloc _)⟩
        · rw [show ((1 : Nat) : Int) = 1 from rfl]
          go_region
          all_goals
            go_wp2
            go_meet
            exact ⟨im, 4096, rfl, rfl, HB.out.2.2.2, by decide, HI.out.kp (by first | exact ((Kp.refl _).alloc _).alloc _ | exact (((Kp.refl _).alloc _).alloc _).drew | exact (((Kp.refl _).alloc _).drew).alloc _)⟩
        · rw [show ((2 : Nat) : Int) = 2 from rfl]
          go_region
          all_goals
            go_wp2
            go_meet
            exact ⟨im, tm, rfl, rfl, HB.out.2.2.2, HB.out.2.2.1, HI.out.kp (by first | exact ((Kp.refl _).alloc _).alloc _ | exact (((Kp.refl _).alloc _).alloc _).drew | exact (((Kp.refl _).alloc _).drew).alloc _)⟩
      case rest =>
        obtain ⟨ad, rt, rfl, rfl, HC⟩ := hcut
        clear HI y1 y2 y3 kt
        obtain ⟨OO, hO⟩ : ∃ OO, seO (rdM M) rt ad acc = OO := ⟨_, rfl⟩
        obtain ⟨FF, hF⟩ : ∃ FF, seF (rdM M) rt ad acc = FF := ⟨_, rfl⟩
        obtain ⟨N, hN⟩ : ∃ N, slN (rdM M) rt ad = N := ⟨_, rfl⟩
        obtain ⟨oF, oI, oa, ob, oc, or', oq, ox⟩ := OO
        obtain ⟨fs, fk, fl, fa, ft⟩ := FF
        have kx := fun w => nsame_any ⟨oF, oI, oa, ob, oc, or', oq, ox⟩ ⟨fs, fk, fl, fa, ft⟩ (N : Int) w
        have kx : ∀ w, Calls Try.prog 13 #[.agg #[.int .i64 oF, .int .u64 (oI : Int), .bool oa, .bool ob, .bool oc, .bool or', .bool oq, .bool ox], .agg #[.int .i64 fs, .int .i64 fk, .int .i64 fl, .int .u64 (fa : Int), .bool ft], .int .i64 (N : Int), .agg #[.int .i64 oF, .int .u64 (oI : Int), .bool oa, .bool ob, .bool oc, .bool or', .bool oq, .bool ox], .agg #[.int .i64 fs, .int .i64 fk, .int .i64 fl, .int .u64 (fa : Int), .bool ft], .int .i64 (N : Int)] w fun e w' => e = .returned (.bool true) ∧ Kp w w' := kx
        have k1 : Calls Try.prog 10 #[.pointer (some ⟨p, 0, none⟩), .int .u64 (rt : Int), .int .u64 (ad : Int), .int .i64 acc] wc fun e w' => e = .returned (.tuple #[.agg #[.int .i64 oF, .int .u64 (oI : Int), .bool oa, .bool ob, .bool oc, .bool or', .bool oq, .bool ox], .agg #[.int .i64 fs, .int .i64 fk, .int .i64 fl, .int .u64 (fa : Int), .bool ft], .int .i64 (N : Int)]) ∧ Hid (WW w (fun _ => False) p (100 + 4 * (i + 1)) M w') := by
          have := wsecond_any HC.out.2.2 rt ad acc HC.out.2.1 HC.out.1 (by omega)
          rw [hO, hF, hN] at this
          exact this.mono fun e w' ⟨e1, e2, _⟩ => ⟨e1, e2⟩
        have k3 : Aside (∀ v qq, DM v qq M → Calls Try.prog 11 #[.pointer (some ⟨qq, 0, none⟩), .int .u64 (rt : Int), .int .u64 (ad : Int), .int .i64 acc] v fun e w' => e = .returned (.tuple #[.agg #[.int .i64 oF, .int .u64 (oI : Int), .bool oa, .bool ob, .bool oc, .bool or', .bool oq, .bool ox], .agg #[.int .i64 fs, .int .i64 fk, .int .i64 fl, .int .u64 (fa : Int), .bool ft], .int .i64 (N : Int)]) ∧ Kp v w') := fun v qq h => by
          have := rsecond_any h rt ad acc HC.out.2.1
          rw [hO, hF, hN] at this
          exact this
        clear hO hF hN HC
        go_wp2_with fail
        with_reducible refine k1.mono ?_
        rintro _ w2 ⟨rfl, H2⟩
        clear k1
        have K2 := box2_kp w2 ⟨oF, oI, oa, ob, oc, or', oq, ox⟩ ⟨fs, fk, fl, fa, ft⟩
        have W2 := H2.out.kp K2
        have A2 := box2_o w2 ⟨oF, oI, oa, ob, oc, or', oq, ox⟩ ⟨fs, fk, fl, fa, ft⟩
        have B2 := box2_f w2 ⟨oF, oI, oa, ob, oc, or', oq, ox⟩ ⟨fs, fk, fl, fa, ft⟩
        obtain ⟨v2, hv2⟩ : ∃ v, v = box2 w2 ⟨oF, oI, oa, ob, oc, or', oq, ox⟩ ⟨fs, fk, fl, fa, ft⟩ := ⟨_, rfl⟩
        rw [← hv2] at W2 A2 B2
        have he2 : v2 = (w2.alloc (.cells #[.int .i64 oF, .int .u64 (oI : Int), .bool oa, .bool ob, .bool oc, .bool or', .bool oq, .bool ox] 31)).alloc (.cells #[.int .i64 fs, .int .i64 fk, .int .i64 fl, .int .u64 (fa : Int), .bool ft] 33) := hv2
        have HW2 : Hid (WW w (fun _ => False) p (100 + 4 * (i + 1)) M v2) := W2
        have kr : Calls Try.prog 12 #[.pointer (some ⟨p, 0, none⟩)] v2 fun e w' => e = .returned (.pointer (some ⟨v2.heap.size, 0, none⟩)) ∧ Hid (DM w' v2.heap.size M ∧ Kp v2 w') := read_mem W2
        clear hv2 H2 K2 W2
        go_wp2_with fail
        rw [← he2]
        clear he2
        with_reducible refine kr.mono ?_
        rintro _ w3 ⟨rfl, H3⟩
        have k4 := k3.out w3 _ H3.out.1
        clear kr k3
        go_wp2_with fail
        with_reducible refine k4.mono ?_
        rintro _ w4 ⟨rfl, K4⟩
        clear k4
        have K5 := (H3.out.2.trans K4).trans (rbox2_kp w4 ⟨oF, oI, oa, ob, oc, or', oq, ox⟩ ⟨fs, fk, fl, fa, ft⟩)
        have A5 := A2.kp K5
        have B5 := B2.kp K5
        have HW5 : Hid (WW w (fun _ => False) p (100 + 4 * (i + 1)) M (rbox2 w4 ⟨oF, oI, oa, ob, oc, or', oq, ox⟩ ⟨fs, fk, fl, fa, ft⟩)) := HW2.out.kp K5
        obtain ⟨v5, hv5⟩ : ∃ v, v = rbox2 w4 ⟨oF, oI, oa, ob, oc, or', oq, ox⟩ ⟨fs, fk, fl, fa, ft⟩ := ⟨_, rfl⟩
        rw [← hv5] at A5 B5 HW5
        have he5 : v5 = (w4.alloc (.cells #[.int .i64 oF, .int .u64 (oI : Int), .bool oa, .bool ob, .bool oc, .bool or', .bool oq, .bool ox] 36)).alloc (.cells #[.int .i64 fs, .int .i64 fk, .int .i64 fl, .int .u64 (fa : Int), .bool ft] 33) := hv5
        have a0 := A5.cell (j := 0) rfl; have a1 := A5.cell (j := 1) rfl; have a2 := A5.cell (j := 2) rfl; have a3 := A5.cell (j := 3) rfl; have a4 := A5.cell (j := 4) rfl; have a5 := A5.cell (j := 5) rfl; have a6 := A5.cell (j := 6) rfl; have a7 := A5.cell (j := 7) rfl
        have b0 := B5.cell (j := 0) rfl; have b1 := B5.cell (j := 1) rfl; have b2 := B5.cell (j := 2) rfl; have b3 := B5.cell (j := 3) rfl; have b4 := B5.cell (j := 4) rfl
        rw [he5] at a0 a1 a2 a3 a4 a5 a6 a7 b0 b1 b2 b3 b4
        clear hv5 H3 K4 K5 A2 B2 A5 B5 HW2
        go_wp2_with fail
        rw [← he5]
        clear he5
        with_reducible refine (kx _).mono ?_
        rintro _ w6 ⟨rfl, K6⟩
        have HW6 : Hid (WW w (fun _ => False) p (100 + 4 * (i + 1)) M w6) := HW5.out.kp K6
        clear K6 HW5 kx a0 a1 a2 a3 a4 a5 a6 a7 b0 b1 b2 b3 b4
        go_wp2_with fail
        go_roundg (4 - (i + 1))
        case measure => omega
        case rel => exact ⟨i + 1, rfl, by omega, by omega, HW6⟩
    · have ei : i = 3 := by omega
      subst ei
      have k1 : ∀ v, Calls Try.prog 10 #[.pointer none, .int .u64 (two : Int), .int .u64 (ipa : Int), .int .i64 acc] v fun e w' => e = .returned (.tuple #[.agg #[.int .i64 0, .int .u64 0, .bool false, .bool false, .bool false, .bool false, .bool false, .bool false], .agg #[.int .i64 2, .int .i64 4, .int .i64 (-1), .int .u64 (ipa : Int), .bool st], .int .i64 0]) ∧ Kp v w' := fun v => by
        have := second_nil two ipa acc HB.out.2.1 v
        rw [hst] at this
        exact this
      have k2 : ∀ v, Calls Try.prog 11 #[.pointer none, .int .u64 (two : Int), .int .u64 (ipa : Int), .int .i64 acc] v fun e w' => e = .returned (.tuple #[.agg #[.int .i64 0, .int .u64 0, .bool false, .bool false, .bool false, .bool false, .bool false, .bool false], .agg #[.int .i64 2, .int .i64 4, .int .i64 (-1), .int .u64 (ipa : Int), .bool st], .int .i64 0]) ∧ Kp v w' := fun v => by
        have := rsecond_nil two ipa acc v
        rw [hst] at this
        exact this
      have kx : ∀ w, Calls Try.prog 13 #[.agg #[.int .i64 0, .int .u64 0, .bool false, .bool false, .bool false, .bool false, .bool false, .bool false], .agg #[.int .i64 2, .int .i64 4, .int .i64 (-1), .int .u64 (ipa : Int), .bool st], .int .i64 0, .agg #[.int .i64 0, .int .u64 0, .bool false, .bool false, .bool false, .bool false, .bool false, .bool false], .agg #[.int .i64 2, .int .i64 4, .int .i64 (-1), .int .u64 (ipa : Int), .bool st], .int .i64 0] w fun e w' => e = .returned (.bool true) ∧ Kp w w' := fun w => nsame_any ⟨0, 0, false, false, false, false, false, false⟩ ⟨2, 4, -1, ipa, st⟩ 0 w
      have HK : Hid (Kp w wr) := HI.out.k
      clear HI hst y1 y2 y3
      go_wp2_with fail
      with_reducible refine (k1 _).mono ?_
      rintro _ w2 ⟨rfl, K2⟩
      have A2 := box2_o w2 ⟨0, 0, false, false, false, false, false, false⟩ ⟨2, 4, -1, ipa, st⟩
      have B2 := box2_f w2 ⟨0, 0, false, false, false, false, false, false⟩ ⟨2, 4, -1, ipa, st⟩
      have HK2 : Hid (Kp w (box2 w2 ⟨0, 0, false, false, false, false, false, false⟩ ⟨2, 4, -1, ipa, st⟩)) := (HK.out.trans K2).trans (box2_kp w2 _ _)
      obtain ⟨v2, hv2⟩ : ∃ v, v = box2 w2 ⟨0, 0, false, false, false, false, false, false⟩ ⟨2, 4, -1, ipa, st⟩ := ⟨_, rfl⟩
      rw [← hv2] at A2 B2 HK2
      have he2 : v2 = (w2.alloc (.cells #[.int .i64 0, .int .u64 0, .bool false, .bool false, .bool false, .bool false, .bool false, .bool false] 31)).alloc (.cells #[.int .i64 2, .int .i64 4, .int .i64 (-1), .int .u64 (ipa : Int), .bool st] 33) := hv2
      clear hv2 K2 HK k1
      go_wp2_with fail
      rw [← he2]
      clear he2
      with_reducible refine (k2 _).mono ?_
      rintro _ w3 ⟨rfl, K3⟩
      have K4 := K3.trans (rbox2_kp w3 ⟨0, 0, false, false, false, false, false, false⟩ ⟨2, 4, -1, ipa, st⟩)
      have A4 := A2.kp K4
      have B4 := B2.kp K4
      have C4 := rbox2_o w3 ⟨0, 0, false, false, false, false, false, false⟩ ⟨2, 4, -1, ipa, st⟩
      have D4 := rbox2_f w3 ⟨0, 0, false, false, false, false, false, false⟩ ⟨2, 4, -1, ipa, st⟩
      have HK4 : Hid (Kp w (rbox2 w3 ⟨0, 0, false, false, false, false, false, false⟩ ⟨2, 4, -1, ipa, st⟩)) := HK2.out.trans K4
      obtain ⟨v4, hv4⟩ : ∃ v, v = rbox2 w3 ⟨0, 0, false, false, false, false, false, false⟩ ⟨2, 4, -1, ipa, st⟩ := ⟨_, rfl⟩
      rw [← hv4] at A4 B4 C4 D4 HK4
      have he4 : v4 = (w3.alloc (.cells #[.int .i64 0, .int .u64 0, .bool false, .bool false, .bool false, .bool false, .bool false, .bool false] 36)).alloc (.cells #[.int .i64 2, .int .i64 4, .int .i64 (-1), .int .u64 (ipa : Int), .bool st] 33) := hv4
      clear hv4 K3 K4 A2 B2 HK2 k2
      go_wp2_with fail
      rw [← he4]
      clear he4
      with_reducible refine (kt _).mono ?_
      rintro _ w5 ⟨rfl, K5⟩
      have A5 := A4.kp K5; have B5 := B4.kp K5; have C5 := C4.kp K5; have D5 := D4.kp K5
      have a0 := A5.cell (j := 0) rfl; have a1 := A5.cell (j := 1) rfl; have a2 := A5.cell (j := 2) rfl; have a3 := A5.cell (j := 3) rfl; have a4 := A5.cell (j := 4) rfl; have a5 := A5.cell (j := 5) rfl; have a6 := A5.cell (j := 6) rfl; have a7 := A5.cell (j := 7) rfl
      have b0 := B5.cell (j := 0) rfl; have b1 := B5.cell (j := 1) rfl; have b2 := B5.cell (j := 2) rfl; have b3 := B5.cell (j := 3) rfl; have b4 := B5.cell (j := 4) rfl
      have c0 := C5.cell (j := 0) rfl; have c1 := C5.cell (j := 1) rfl; have c2 := C5.cell (j := 2) rfl; have c3 := C5.cell (j := 3) rfl; have c4 := C5.cell (j := 4) rfl; have c5 := C5.cell (j := 5) rfl; have c6 := C5.cell (j := 6) rfl; have c7 := C5.cell (j := 7) rfl
      have d0 := D5.cell (j := 0) rfl; have d1 := D5.cell (j := 1) rfl; have d2 := D5.cell (j := 2) rfl; have d3 := D5.cell (j := 3) rfl; have d4 := D5.cell (j := 4) rfl
      have HK5 : Hid (Kp w w5) := HK4.out.trans K5
      clear A4 B4 C4 D4 A5 B5 C5 D5 HK4 K5 kt
      go_wp2_with fail
      with_reducible refine (kx _).mono ?_
      rintro _ w6 ⟨rfl, K6⟩
      have HK6 : Hid (Kp w w6) := HK5.out.trans K6
      clear HK5 K6 kx a0 a1 a2 a3 a4 a5 a6 a7 b0 b1 b2 b3 b4 c0 c1 c2 c3 c4 c5 c6 c7 d0 d1 d2 d3 d4
      go_wp2
      go_ret
      exact ⟨rfl, HK6.out⟩

theorem seconds_law (two ipa acc : Int) (na : Option Addr) (n cap : Nat) (V : Nat → EV) (w : World) (H : ES w na n V) (h1 : (Lit.int .u64 two).wf = true) (h2 : (Lit.int .u64 ipa).wf = true) :
    Calls Try.prog 3 #[.slice na n cap, .int .u64 two, .int .u64 ipa, .int .i64 acc] w fun e w' => e = .returned (.bool true) ∧ Kp w w' := by
  obtain ⟨a1, a2⟩ := wf_word h1
  obtain ⟨t, rfl⟩ := Int.eq_ofNat_of_zero_le a1
  obtain ⟨b1, b2⟩ := wf_word h2
  obtain ⟨u, rfl⟩ := Int.eq_ofNat_of_zero_le b1
  have e1 := u64_and_nat t 28672 (by omega) (by decide)
  have l1 : t &&& 28672 ≤ 28672 := Nat.and_le_right
  exact seconds_walk na n cap V t u (t &&& 28672) (u % 131072) acc w H (by omega) (by omega) e1 l1 (by omega) (by rw [Int.tmod_eq_emod_of_nonneg (by omega)]; omega) (by omega)

end Go.Proofs.Ytaldekfaebkpkaa
