/- NestedGrants. -/
import Derived.Test.YtaldekfaebkpkaaNV
namespace Go.Proofs.Ytaldekfaebkpkaa
open Go.RowKit
set_option maxRecDepth 10000

/-- What Walk tells, on or off. -/
def grA (rd : Nat → Nat × Bool) (on : Bool) (u : Nat) (acc : Int) (o : OV) (f : FV) (n : Nat) : Prop :=
  (on = true ∧ onC rd 4096 0 u acc o f n) ∨ (on = false ∧ o = seO rd 4096 u acc ∧ f = seF rd 4096 u acc ∧ n = slN rd 4096 u)
theorem wgr_any {W w : World} {X : Nat → Prop} {p o : Nat} {M : Nat → Nat → Nat} (h : WW W X p o M w) (on : Bool) (u : Nat) (acc : Int) (hu : u < 281474976710656) (ho : o < 1000000000000000000) (ov : OV) (fv : FV) (n : Nat) (hc : grA (rdM M) on u acc ov fv n) :
    Calls Try.prog 15 #[.pointer (some ⟨p, 0, none⟩), .agg #[.int .u64 4096, .bool on, .int .u64 0], .int .u64 (u : Int), .int .i64 acc] w fun e w' => e = .returned (.tuple #[ouV ov, faV fv, .int .i64 (n : Int)]) ∧ WW W X p (o + 24) M w' ∧ Fr (OuX W X) w w' := by
  rcases hc with ⟨rfl, hc⟩ | ⟨rfl, rfl, rfl, rfl⟩
  · exact won_any h 4096 0 u acc (by decide) hu (by decide) (by decide) ho ov fv n hc
  · exact (woff_any h 4096 0 u acc (by decide) hu (by omega)).mono fun e w' ⟨e1, e2, e3⟩ => ⟨e1, e2.le (by omega), e3⟩
theorem alP_all (acc : Int) (h1 : 1 ≤ acc) (h2 : acc ≤ 3) : alP true true true acc = true := by
  unfold alP
  by_cases c1 : acc = 1
  · rw [if_pos c1]
  rw [if_neg c1]
  by_cases c2 : acc = 2
  · rw [if_pos c2]
  rw [if_neg c2, if_pos (by omega)]
theorem seK_zero {rd : Nat → Nat × Bool} {two u : Nat} {acc : Int} (h : slK rd two u = 0) (a : alP (slL rd two u).d.r (slL rd two u).d.q (slL rd two u).d.x acc = true) : seK rd two u acc = 0 := by
  unfold seK
  rw [if_neg (by rw [a]; exact fun c => Bool.noConfusion c.2)]; exact h
theorem seK_two {rd : Nat → Nat × Bool} {two u : Nat} {acc : Int} (h : slK rd two u = 0) (a : alP (slL rd two u).d.r (slL rd two u).d.q (slL rd two u).d.x acc = false) : seK rd two u acc = 2 := by
  unfold seK
  rw [if_pos ⟨h, a⟩]
theorem seK_no {rd : Nat → Nat × Bool} {two u : Nat} (acc : Int) (h : ¬ slK rd two u = 0) : ¬ seK rd two u acc = 0 := by
  unfold seK
  rw [if_neg (fun c => h c.1)]; exact h
/-- One walk's permissions tell what may be done. -/
theorem grants (rd : Nat → Nat × Bool) (on : Bool) (u : Nat) : ∃ (O : OV) (D : Bool), ∀ acc : Int, 1 ≤ acc → acc ≤ 3 → ∃ o f n, grA rd on u acc o f n ∧
    ((f = zF ∧ o = O ∧ D = true ∧ alP O.a O.b O.c acc = true ∧ alP O.r O.q O.x acc = true) ∨ (¬ f.s = 0 ∧ (D = true → f.k = 2 ∧ (alP O.a O.b O.c acc = false ∨ alP O.a O.b O.c acc = true ∧ alP O.r O.q O.x acc = false)))) := by
  cases on
  · by_cases c : slK rd 4096 u = 0
    · refine ⟨⟨((outN u (slL rd 4096 u).l (slL rd 4096 u).d.k (slL rd 4096 u).d.a / 4096 : Nat) : Int), u / 4096, true, true, true, (slL rd 4096 u).d.r, (slL rd 4096 u).d.q, (slL rd 4096 u).d.x⟩, true, fun acc h1 h2 => ⟨_, _, _, .inr ⟨rfl, rfl, rfl, rfl⟩, ?_⟩⟩
      obtain ⟨bb, a⟩ : ∃ b, alP (slL rd 4096 u).d.r (slL rd 4096 u).d.q (slL rd 4096 u).d.x acc = b := ⟨_, rfl⟩
      cases bb
      · have e := seK_two c a
        refine .inr ⟨?_, fun _ => ⟨?_, .inr ⟨alP_all acc h1 h2, a⟩⟩⟩
        · unfold seF; rw [if_neg (by rw [e]; decide)]; show ¬ (2 : Int) = 0; decide
        · unfold seF; rw [if_neg (by rw [e]; decide)]; exact e
      · have e := seK_zero c a
        refine .inl ⟨if_pos e, if_pos e, rfl, alP_all acc h1 h2, a⟩
    · refine ⟨zO, false, fun acc h1 h2 => ⟨_, _, _, .inr ⟨rfl, rfl, rfl, rfl⟩, .inr ⟨?_, fun h => Bool.noConfusion h⟩⟩⟩
      unfold seF; rw [if_neg (seK_no acc c)]; show ¬ (2 : Int) = 0; decide
  · by_cases c1 : (flF rd 4096 0 u).k = 0
    · by_cases c : slK rd 4096 (outN u (flL rd 4096 0 u).l (flL rd 4096 0 u).d.k (flL rd 4096 0 u).d.a) = 0
      · refine ⟨⟨((outN (outN u (flL rd 4096 0 u).l (flL rd 4096 0 u).d.k (flL rd 4096 0 u).d.a) (slL rd 4096 (outN u (flL rd 4096 0 u).l (flL rd 4096 0 u).d.k (flL rd 4096 0 u).d.a)).l (slL rd 4096 (outN u (flL rd 4096 0 u).l (flL rd 4096 0 u).d.k (flL rd 4096 0 u).d.a)).d.k (slL rd 4096 (outN u (flL rd 4096 0 u).l (flL rd 4096 0 u).d.k (flL rd 4096 0 u).d.a)).d.a / 4096 : Nat) : Int), (outN u (flL rd 4096 0 u).l (flL rd 4096 0 u).d.k (flL rd 4096 0 u).d.a) / 4096, (flL rd 4096 0 u).d.r, (flL rd 4096 0 u).d.q, (flL rd 4096 0 u).d.x, (slL rd 4096 (outN u (flL rd 4096 0 u).l (flL rd 4096 0 u).d.k (flL rd 4096 0 u).d.a)).d.r, (slL rd 4096 (outN u (flL rd 4096 0 u).l (flL rd 4096 0 u).d.k (flL rd 4096 0 u).d.a)).d.q, (slL rd 4096 (outN u (flL rd 4096 0 u).l (flL rd 4096 0 u).d.k (flL rd 4096 0 u).d.a)).d.x⟩, true, fun acc h1 h2 => ?_⟩
        obtain ⟨bb, a1⟩ : ∃ b, alP (flL rd 4096 0 u).d.r (flL rd 4096 0 u).d.q (flL rd 4096 0 u).d.x acc = b := ⟨_, rfl⟩
        cases bb
        · exact ⟨_, _, _, .inl ⟨rfl, .inr (.inl ⟨c1, a1, rfl, rfl, rfl⟩)⟩, .inr ⟨(show ¬ (1 : Int) = 0 by decide), fun _ => ⟨rfl, .inl a1⟩⟩⟩
        · obtain ⟨bb, a⟩ : ∃ b, alP (slL rd 4096 (outN u (flL rd 4096 0 u).l (flL rd 4096 0 u).d.k (flL rd 4096 0 u).d.a)).d.r (slL rd 4096 (outN u (flL rd 4096 0 u).l (flL rd 4096 0 u).d.k (flL rd 4096 0 u).d.a)).d.q (slL rd 4096 (outN u (flL rd 4096 0 u).l (flL rd 4096 0 u).d.k (flL rd 4096 0 u).d.a)).d.x acc = b := ⟨_, rfl⟩
          cases bb
          · have e := seK_two c a
            refine ⟨_, _, _, .inl ⟨rfl, .inr (.inr (.inl ⟨c1, a1, by rw [e]; decide, rfl, rfl, rfl⟩))⟩, .inr ⟨?_, fun _ => ⟨?_, .inr ⟨a1, a⟩⟩⟩⟩
            · unfold seF; rw [if_neg (by rw [e]; decide)]; show ¬ (2 : Int) = 0; decide
            · unfold seF; rw [if_neg (by rw [e]; decide)]; exact e
          · have e := seK_zero c a
            refine ⟨_, _, _, .inl ⟨rfl, .inr (.inr (.inr ⟨c1, a1, e, rfl, rfl, rfl⟩))⟩, .inl ⟨rfl, ?_, rfl, a1, a⟩⟩
            unfold seO; rw [if_pos e]
      · refine ⟨zO, false, fun acc h1 h2 => ?_⟩
        obtain ⟨bb, a1⟩ : ∃ b, alP (flL rd 4096 0 u).d.r (flL rd 4096 0 u).d.q (flL rd 4096 0 u).d.x acc = b := ⟨_, rfl⟩
        cases bb
        · exact ⟨_, _, _, .inl ⟨rfl, .inr (.inl ⟨c1, a1, rfl, rfl, rfl⟩)⟩, .inr ⟨(show ¬ (1 : Int) = 0 by decide), fun h => Bool.noConfusion h⟩⟩
        · refine ⟨_, _, _, .inl ⟨rfl, .inr (.inr (.inl ⟨c1, a1, seK_no acc c, rfl, rfl, rfl⟩))⟩, .inr ⟨?_, fun h => Bool.noConfusion h⟩⟩
          unfold seF; rw [if_neg (seK_no acc c)]; show ¬ (2 : Int) = 0; decide
    · obtain ⟨b1, _⟩ := flF_bound rd 4096 0 u c1
      refine ⟨zO, false, fun acc h1 h2 => ⟨_, _, _, .inl ⟨rfl, .inl ⟨c1, rfl, rfl, rfl⟩⟩, .inr ⟨?_, fun h => Bool.noConfusion h⟩⟩⟩
      show ¬ (flF rd 4096 0 u).s = 0
      rcases b1 with b1 | b1 <;> rw [b1] <;> decide

set_option maxHeartbeats 8000000 in
theorem grants_walk (na : Option Addr) (n cap : Nat) (V : Nat → EV) (on : Bool) (va a2 : Nat) (w : World) (H : ES w na n V) (y2 : bits .and .u64 (va : Int) 131071 = (a2 : Int)) (z2 : a2 < 281474976710656) :
    Calls Try.prog 8 #[.slice na n cap, .bool on, .int .u64 (va : Int)] w fun e w' => e = .returned (.bool true) ∧ Kp w w' := by
  have kw := world_any na n cap V w H
  have kt := ltold_any
  have HZ : Hid (a2 < 281474976710656) := z2
  clear H z2
  go_enter Try.func8, Try.ntmps8
  go_wp2_with fail
  with_reducible refine kw.mono ?_
  rintro e v1 ⟨p, M, rfl, H1, _⟩
  clear kw
  obtain ⟨O, D, hG⟩ := grants (rdM M) on a2
  obtain ⟨oF, oI, oa, ob, oc, or', oq, ox⟩ := O
  have HG : Hid (∀ acc : Int, 1 ≤ acc → acc ≤ 3 → ∃ o f n, grA (rdM M) on a2 acc o f n ∧ ((f = zF ∧ o = ⟨oF, oI, oa, ob, oc, or', oq, ox⟩ ∧ D = true ∧ alP oa ob oc acc = true ∧ alP or' oq ox acc = true) ∨ (¬ f.s = 0 ∧ (D = true → f.k = 2 ∧ (alP oa ob oc acc = false ∨ alP oa ob oc acc = true ∧ alP or' oq ox acc = false))))) := hG
  have HW : Hid (WW w (· = v1.heap.size) p (4 + 96 * 1) M (v1.alloc (.cells #[.int .u64 4096, .bool on, .int .u64 0] 45)) ∧ RX (v1.alloc (.cells #[.int .u64 4096, .bool on, .int .u64 0] 45)) v1.heap.size 45 [.int .u64 4096, .bool on, .int .u64 0]) :=
    ⟨(H1.more ((Kp.refl v1).alloc _) v1.heap.size (Nat.le_refl _) (by simp)).less (fun i hi => .inr hi), RX.made v1 _ _⟩
  clear H1 hG
  go_wp2_with fail
  go_loopg [11] 5 (fun g v11 wr => ∃ i : Nat, v11 = .int .i64 (i : Int) ∧ 1 ≤ i ∧ i ≤ 4 ∧ 5 - i ≤ g ∧ Hid (WW w (· = v1.heap.size) p (4 + 96 * i) M wr ∧ RX wr v1.heap.size 45 [.int .u64 4096, .bool on, .int .u64 0]))
  case atStart => exact ⟨1, rfl, by omega, by omega, by omega, HW⟩
  case round =>
    clear HW
    obtain ⟨i, rfl, hi1, hi, hg, HI⟩ := hrel
    by_cases ei : i < 4
    · have zi : (i : Int) < 4 := by omega
      obtain ⟨ov, fv, N, hc, hcase⟩ := HG.out i (by omega) (by omega)
      obtain ⟨fs, fk, fl, fa, ft⟩ := fv
      obtain ⟨pf, pi, pa, pb, pc, pr, pq, px⟩ := ov
      have k1 : Calls Try.prog 15 #[.pointer (some ⟨p, 0, none⟩), .agg #[.int .u64 4096, .bool on, .int .u64 0], .int .u64 (a2 : Int), .int .i64 (i : Int)] wr fun e w' => e = .returned (.tuple #[.agg #[.int .i64 pf, .int .u64 (pi : Int), .bool pa, .bool pb, .bool pc, .bool pr, .bool pq, .bool px], .agg #[.int .i64 fs, .int .i64 fk, .int .i64 fl, .int .u64 (fa : Int), .bool ft], .int .i64 (N : Int)]) ∧ Hid (WW w (· = v1.heap.size) p (4 + 96 * i + 24) M w' ∧ Fr (OuX w (· = v1.heap.size)) wr w') := wgr_any HI.out.1 on a2 i HZ.out (by omega) _ _ _ hc
      have d0 := HI.out.2.cell (j := 0) rfl; have d1 := HI.out.2.cell (j := 1) rfl; have d2 := HI.out.2.cell (j := 2) rfl
      clear hc
      rcases hcase with ⟨e1, e2, e3, _⟩ | ⟨e1, _⟩
      · obtain ⟨rfl, rfl, rfl, rfl, rfl⟩ : fs = 0 ∧ fk = 0 ∧ fl = 0 ∧ fa = 0 ∧ ft = false := by
          have := e1; unfold zF at this; simpa using this
        obtain ⟨rfl, rfl, rfl, rfl, rfl, rfl, rfl, rfl⟩ : oF = pf ∧ oI = pi ∧ oa = pa ∧ ob = pb ∧ oc = pc ∧ or' = pr ∧ oq = pq ∧ ox = px := by
          have := e2.symm; simpa using this
        have HD : Hid (D = true) := e3
        clear e1 e2 e3
        go_wp2_with fail
        with_reducible refine k1.mono ?_
        rintro _ w2 ⟨rfl, H2⟩
        clear k1 d0 d1 d2
        have K2 := box2_kp w2 ⟨oF, oI, oa, ob, oc, or', oq, ox⟩ ⟨0, 0, 0, 0, false⟩
        have B2 := (HI.out.2.fr H2.out.2 (fun c => c.2 rfl)).kp K2
        have R2 := box2_o w2 ⟨oF, oI, oa, ob, oc, or', oq, ox⟩ ⟨0, 0, 0, 0, false⟩
        have W2 := H2.out.1.boxes ⟨oF, oI, oa, ob, oc, or', oq, ox⟩ ⟨0, 0, 0, 0, false⟩
        obtain ⟨v2, hv2⟩ : ∃ v, v = box2 w2 ⟨oF, oI, oa, ob, oc, or', oq, ox⟩ ⟨0, 0, 0, 0, false⟩ := ⟨_, rfl⟩
        rw [← hv2] at B2 R2 W2
        have he2 : v2 = (w2.alloc (.cells #[.int .i64 oF, .int .u64 (oI : Int), .bool oa, .bool ob, .bool oc, .bool or', .bool oq, .bool ox] 31)).alloc (.cells #[.int .i64 0, .int .i64 0, .int .i64 0, .int .u64 0, .bool false] 33) := hv2
        have HJ0 : Hid (WW w (fun k => k = v1.heap.size ∨ w2.heap.size ≤ k ∧ k < w2.heap.size + 2) p (4 + 96 * i + 24 * 1) M v2 ∧ RX v2 v1.heap.size 45 [.int .u64 4096, .bool on, .int .u64 0] ∧ RX v2 w2.heap.size 31 (encO ⟨oF, oI, oa, ob, oc, or', oq, ox⟩)) := ⟨W2, B2, R2⟩
        clear hv2 H2 K2 B2 R2 W2 HI
        go_wp2_with fail
        rw [← he2]
        clear he2
        go_loopg [15] 5 (fun g v15 wq => ∃ j : Nat, v15 = .int .i64 (j : Int) ∧ 1 ≤ j ∧ j ≤ 4 ∧ 5 - j ≤ g ∧ Hid (WW w (fun k => k = v1.heap.size ∨ w2.heap.size ≤ k ∧ k < w2.heap.size + 2) p (4 + 96 * i + 24 * j) M wq ∧ RX wq v1.heap.size 45 [.int .u64 4096, .bool on, .int .u64 0] ∧ RX wq w2.heap.size 31 (encO ⟨oF, oI, oa, ob, oc, or', oq, ox⟩)))
        case atStart => exact ⟨1, rfl, by omega, by omega, by omega, HJ0⟩
        case round =>
          clear HJ0
          obtain ⟨j, rfl, hj1, hj, hgj, HJ⟩ := hrel
          by_cases ej : j < 4
          · have zj : (j : Int) < 4 := by omega
            obtain ⟨ov, fv, N, hc, hcase⟩ := HG.out j (by omega) (by omega)
            obtain ⟨fs, fk, fl, fa, ft⟩ := fv
            obtain ⟨pf, pi, pa, pb, pc, pr, pq, px⟩ := ov
            have k2 : Calls Try.prog 15 #[.pointer (some ⟨p, 0, none⟩), .agg #[.int .u64 4096, .bool on, .int .u64 0], .int .u64 (a2 : Int), .int .i64 (j : Int)] wr fun e w' => e = .returned (.tuple #[.agg #[.int .i64 pf, .int .u64 (pi : Int), .bool pa, .bool pb, .bool pc, .bool pr, .bool pq, .bool px], .agg #[.int .i64 fs, .int .i64 fk, .int .i64 fl, .int .u64 (fa : Int), .bool ft], .int .i64 (N : Int)]) ∧ Hid (WW w (fun k => k = v1.heap.size ∨ w2.heap.size ≤ k ∧ k < w2.heap.size + 2) p (4 + 96 * i + 24 * j + 24) M w' ∧ Fr (OuX w (fun k => k = v1.heap.size ∨ w2.heap.size ≤ k ∧ k < w2.heap.size + 2)) wr w') := wgr_any HJ.out.1 on a2 j HZ.out (by omega) _ _ _ hc
            have d0 := HJ.out.2.1.cell (j := 0) rfl; have d1 := HJ.out.2.1.cell (j := 1) rfl; have d2 := HJ.out.2.1.cell (j := 2) rfl
            have ka := fun w => allows_any oa ob oc j w
            have kb := fun w => allows_any or' oq ox j w
            clear hc kt
            rcases hcase with ⟨e1, e2, _, e4, e5⟩ | ⟨e1, e2⟩
            · obtain ⟨rfl, rfl, rfl, rfl, rfl⟩ : fs = 0 ∧ fk = 0 ∧ fl = 0 ∧ fa = 0 ∧ ft = false := by
                have := e1; unfold zF at this; simpa using this
              obtain ⟨rfl, rfl, rfl, rfl, rfl, rfl, rfl, rfl⟩ : oF = pf ∧ oI = pi ∧ oa = pa ∧ ob = pb ∧ oc = pc ∧ or' = pr ∧ oq = pq ∧ ox = px := by
                have := e2.symm; simpa using this
              rw [e4] at ka
              rw [e5] at kb
              clear e1 e2 e4 e5
              go_wp2_with fail
              with_reducible refine k2.mono ?_
              rintro _ w3 ⟨rfl, H3⟩
              clear k2 d0 d1 d2
              have K3 := box2_kp w3 ⟨oF, oI, oa, ob, oc, or', oq, ox⟩ ⟨0, 0, 0, 0, false⟩
              have R3 := (HJ.out.2.2.fr H3.out.2 (fun c => c.2 (.inr ⟨Nat.le_refl _, by omega⟩))).kp K3
              have B3 := (HJ.out.2.1.fr H3.out.2 (fun c => c.2 (.inl rfl))).kp K3
              have W3 := H3.out.1.kp K3
              have P3 := box2_o w3 ⟨oF, oI, oa, ob, oc, or', oq, ox⟩ ⟨0, 0, 0, 0, false⟩
              have F3 := box2_f w3 ⟨oF, oI, oa, ob, oc, or', oq, ox⟩ ⟨0, 0, 0, 0, false⟩
              obtain ⟨v3, hv3⟩ : ∃ v, v = box2 w3 ⟨oF, oI, oa, ob, oc, or', oq, ox⟩ ⟨0, 0, 0, 0, false⟩ := ⟨_, rfl⟩
              rw [← hv3] at R3 B3 W3 P3 F3
              have he3 : v3 = (w3.alloc (.cells #[.int .i64 oF, .int .u64 (oI : Int), .bool oa, .bool ob, .bool oc, .bool or', .bool oq, .bool ox] 31)).alloc (.cells #[.int .i64 0, .int .i64 0, .int .i64 0, .int .u64 0, .bool false] 33) := hv3
              clear hv3 H3 HJ K3
              have r2 := R3.cell (j := 2) rfl; have r3 := R3.cell (j := 3) rfl; have r4 := R3.cell (j := 4) rfl
              rw [he3] at r2 r3 r4
              go_wp2_with fail
              rw [← he3]
              clear he3
              with_reducible refine (ka _).mono ?_
              rintro _ w4 ⟨rfl, K4⟩
              have R4 := R3.kp K4; have B4 := B3.kp K4; have W4 := W3.kp K4; have P4 := P3.kp K4; have F4 := F3.kp K4
              clear r2 r3 r4 R3 B3 W3 P3 F3 K4 ka
              have r5 := R4.cell (j := 5) rfl; have r6 := R4.cell (j := 6) rfl; have r7 := R4.cell (j := 7) rfl
              go_wp2_with fail
              with_reducible refine (kb _).mono ?_
              rintro _ w5 ⟨rfl, K5⟩
              have R5 := R4.kp K5; have B5 := B4.kp K5; have W5 := W4.kp K5; have P5 := P4.kp K5; have F5 := F4.kp K5
              clear r5 r6 r7 R4 B4 W4 P4 F4 K5
              clear kb
              have HJ : Hid (WW w (fun k => k = v1.heap.size ∨ w2.heap.size ≤ k ∧ k < w2.heap.size + 2) p (4 + 96 * i + 24 * (j + 1)) M w5 ∧ RX w5 v1.heap.size 45 [.int .u64 4096, .bool on, .int .u64 0] ∧ RX w5 w2.heap.size 31 (encO ⟨oF, oI, oa, ob, oc, or', oq, ox⟩)) := ⟨W5.le (by omega), B5, R5⟩
              have b0 := F5.cell (j := 0) rfl; have b1 := F5.cell (j := 1) rfl
              have r0 := R5.cell (j := 0) rfl; have r1 := R5.cell (j := 1) rfl; have r2 := R5.cell (j := 2) rfl; have r3 := R5.cell (j := 3) rfl; have r4 := R5.cell (j := 4) rfl; have r5 := R5.cell (j := 5) rfl; have r6 := R5.cell (j := 6) rfl; have r7 := R5.cell (j := 7) rfl
              have c0 := P5.cell (j := 0) rfl; have c1 := P5.cell (j := 1) rfl; have c2 := P5.cell (j := 2) rfl; have c3 := P5.cell (j := 3) rfl; have c4 := P5.cell (j := 4) rfl; have c5 := P5.cell (j := 5) rfl; have c6 := P5.cell (j := 6) rfl; have c7 := P5.cell (j := 7) rfl
              have q1 : ∀ v : World, (Op.equalIn 10000 31 (.agg #[.int .i64 oF, .int .u64 (oI : Int), .bool oa, .bool ob, .bool oc, .bool or', .bool oq, .bool ox]) (.agg #[.int .i64 oF, .int .u64 (oI : Int), .bool oa, .bool ob, .bool oc, .bool or', .bool oq, .bool ox])).run Try.prog v = .ok true v := fun v => by rw [eq_out]; simp [samP]
              clear R5 B5 W5 P5 F5
              go_wp2
              go_roundg (5 - (j + 1))
              case measure => omega
              case rel => exact ⟨j + 1, rfl, by omega, by omega, by omega, HJ⟩
            · obtain ⟨e3, e4⟩ := e2 HD.out
              replace e3 : fk = 2 := e3
              subst e3
              replace e1 : ¬ fs = 0 := e1
              have g1 : (fs == 0) = false := by rw [beq_eq_false_iff_ne]; exact e1
              clear e2
              rcases e4 with e4 | ⟨e4, e5⟩
              · rw [e4] at ka
                clear e4
                go_wp2_with fail
                with_reducible refine k2.mono ?_
                rintro _ w3 ⟨rfl, H3⟩
                clear k2 d0 d1 d2
                have K3 := box2_kp w3 ⟨pf, pi, pa, pb, pc, pr, pq, px⟩ ⟨fs, 2, fl, fa, ft⟩
                have R3 := (HJ.out.2.2.fr H3.out.2 (fun c => c.2 (.inr ⟨Nat.le_refl _, by omega⟩))).kp K3
                have B3 := (HJ.out.2.1.fr H3.out.2 (fun c => c.2 (.inl rfl))).kp K3
                have W3 := H3.out.1.kp K3
                have P3 := box2_o w3 ⟨pf, pi, pa, pb, pc, pr, pq, px⟩ ⟨fs, 2, fl, fa, ft⟩
                have F3 := box2_f w3 ⟨pf, pi, pa, pb, pc, pr, pq, px⟩ ⟨fs, 2, fl, fa, ft⟩
                obtain ⟨v3, hv3⟩ : ∃ v, v = box2 w3 ⟨pf, pi, pa, pb, pc, pr, pq, px⟩ ⟨fs, 2, fl, fa, ft⟩ := ⟨_, rfl⟩
                rw [← hv3] at R3 B3 W3 P3 F3
                have he3 : v3 = (w3.alloc (.cells #[.int .i64 pf, .int .u64 (pi : Int), .bool pa, .bool pb, .bool pc, .bool pr, .bool pq, .bool px] 31)).alloc (.cells #[.int .i64 fs, .int .i64 2, .int .i64 fl, .int .u64 (fa : Int), .bool ft] 33) := hv3
                clear hv3 H3 HJ K3
                have r2 := R3.cell (j := 2) rfl; have r3 := R3.cell (j := 3) rfl; have r4 := R3.cell (j := 4) rfl
                rw [he3] at r2 r3 r4
                go_wp2_with fail
                rw [← he3]
                clear he3
                with_reducible refine (ka _).mono ?_
                rintro _ w4 ⟨rfl, K4⟩
                have R4 := R3.kp K4; have B4 := B3.kp K4; have W4 := W3.kp K4; have P4 := P3.kp K4; have F4 := F3.kp K4
                clear r2 r3 r4 R3 B3 W3 P3 F3 K4 ka
                clear kb
                have HJ : Hid (WW w (fun k => k = v1.heap.size ∨ w2.heap.size ≤ k ∧ k < w2.heap.size + 2) p (4 + 96 * i + 24 * (j + 1)) M w4 ∧ RX w4 v1.heap.size 45 [.int .u64 4096, .bool on, .int .u64 0] ∧ RX w4 w2.heap.size 31 (encO ⟨oF, oI, oa, ob, oc, or', oq, ox⟩)) := ⟨W4.le (by omega), B4, R4⟩
                have b0 := F4.cell (j := 0) rfl; have b1 := F4.cell (j := 1) rfl
                clear R4 B4 W4 P4 F4
                go_wp2
                go_roundg (5 - (j + 1))
                case measure => omega
                case rel => exact ⟨j + 1, rfl, by omega, by omega, by omega, HJ⟩
              · rw [e4] at ka
                rw [e5] at kb
                clear e4 e5
                go_wp2_with fail
                with_reducible refine k2.mono ?_
                rintro _ w3 ⟨rfl, H3⟩
                clear k2 d0 d1 d2
                have K3 := box2_kp w3 ⟨pf, pi, pa, pb, pc, pr, pq, px⟩ ⟨fs, 2, fl, fa, ft⟩
                have R3 := (HJ.out.2.2.fr H3.out.2 (fun c => c.2 (.inr ⟨Nat.le_refl _, by omega⟩))).kp K3
                have B3 := (HJ.out.2.1.fr H3.out.2 (fun c => c.2 (.inl rfl))).kp K3
                have W3 := H3.out.1.kp K3
                have P3 := box2_o w3 ⟨pf, pi, pa, pb, pc, pr, pq, px⟩ ⟨fs, 2, fl, fa, ft⟩
                have F3 := box2_f w3 ⟨pf, pi, pa, pb, pc, pr, pq, px⟩ ⟨fs, 2, fl, fa, ft⟩
                obtain ⟨v3, hv3⟩ : ∃ v, v = box2 w3 ⟨pf, pi, pa, pb, pc, pr, pq, px⟩ ⟨fs, 2, fl, fa, ft⟩ := ⟨_, rfl⟩
                rw [← hv3] at R3 B3 W3 P3 F3
                have he3 : v3 = (w3.alloc (.cells #[.int .i64 pf, .int .u64 (pi : Int), .bool pa, .bool pb, .bool pc, .bool pr, .bool pq, .bool px] 31)).alloc (.cells #[.int .i64 fs, .int .i64 2, .int .i64 fl, .int .u64 (fa : Int), .bool ft] 33) := hv3
                clear hv3 H3 HJ K3
                have r2 := R3.cell (j := 2) rfl; have r3 := R3.cell (j := 3) rfl; have r4 := R3.cell (j := 4) rfl
                rw [he3] at r2 r3 r4
                go_wp2_with fail
                rw [← he3]
                clear he3
                with_reducible refine (ka _).mono ?_
                rintro _ w4 ⟨rfl, K4⟩
                have R4 := R3.kp K4; have B4 := B3.kp K4; have W4 := W3.kp K4; have P4 := P3.kp K4; have F4 := F3.kp K4
                clear r2 r3 r4 R3 B3 W3 P3 F3 K4 ka
                have r5 := R4.cell (j := 5) rfl; have r6 := R4.cell (j := 6) rfl; have r7 := R4.cell (j := 7) rfl
                go_wp2_with fail
                with_reducible refine (kb _).mono ?_
                rintro _ w5 ⟨rfl, K5⟩
                have R5 := R4.kp K5; have B5 := B4.kp K5; have W5 := W4.kp K5; have P5 := P4.kp K5; have F5 := F4.kp K5
                clear r5 r6 r7 R4 B4 W4 P4 F4 K5
                clear kb
                have HJ : Hid (WW w (fun k => k = v1.heap.size ∨ w2.heap.size ≤ k ∧ k < w2.heap.size + 2) p (4 + 96 * i + 24 * (j + 1)) M w5 ∧ RX w5 v1.heap.size 45 [.int .u64 4096, .bool on, .int .u64 0] ∧ RX w5 w2.heap.size 31 (encO ⟨oF, oI, oa, ob, oc, or', oq, ox⟩)) := ⟨W5.le (by omega), B5, R5⟩
                have b0 := F5.cell (j := 0) rfl; have b1 := F5.cell (j := 1) rfl
                clear R5 B5 W5 P5 F5
                go_wp2
                go_roundg (5 - (j + 1))
                case measure => omega
                case rel => exact ⟨j + 1, rfl, by omega, by omega, by omega, HJ⟩
          · have ej : j = 4 := by omega
            subst ej
            have HI : Hid (WW w (· = v1.heap.size) p (4 + 96 * (i + 1)) M wr ∧ RX wr v1.heap.size 45 [.int .u64 4096, .bool on, .int .u64 0]) := ⟨(HJ.out.1.less (fun k hk => .inl hk)).le (by omega), HJ.out.2.1⟩
            clear HJ
            go_wp2_with fail
            go_roundg (5 - (i + 1))
            case measure => omega
            case rel => exact ⟨i + 1, rfl, by omega, by omega, by omega, HI⟩
      · replace e1 : ¬ fs = 0 := e1
        have g1 : (fs == 0) = false := by rw [beq_eq_false_iff_ne]; exact e1
        have g2 : (fs != 0) = true := by rw [bne_iff_ne]; exact e1
        go_wp2_with fail
        with_reducible refine k1.mono ?_
        rintro _ w2 ⟨rfl, H2⟩
        clear k1 d0 d1 d2
        have K2 := box2_kp w2 ⟨pf, pi, pa, pb, pc, pr, pq, px⟩ ⟨fs, fk, fl, fa, ft⟩
        have HI2 : Hid (WW w (· = v1.heap.size) p (4 + 96 * (i + 1)) M (box2 w2 ⟨pf, pi, pa, pb, pc, pr, pq, px⟩ ⟨fs, fk, fl, fa, ft⟩) ∧ RX (box2 w2 ⟨pf, pi, pa, pb, pc, pr, pq, px⟩ ⟨fs, fk, fl, fa, ft⟩) v1.heap.size 45 [.int .u64 4096, .bool on, .int .u64 0]) := ⟨(H2.out.1.kp K2).le (by omega), (HI.out.2.fr H2.out.2 (fun c => c.2 rfl)).kp K2⟩
        obtain ⟨v2, hv2⟩ : ∃ v, v = box2 w2 ⟨pf, pi, pa, pb, pc, pr, pq, px⟩ ⟨fs, fk, fl, fa, ft⟩ := ⟨_, rfl⟩
        rw [← hv2] at HI2
        have he2 : v2 = (w2.alloc (.cells #[.int .i64 pf, .int .u64 (pi : Int), .bool pa, .bool pb, .bool pc, .bool pr, .bool pq, .bool px] 31)).alloc (.cells #[.int .i64 fs, .int .i64 fk, .int .i64 fl, .int .u64 (fa : Int), .bool ft] 33) := hv2
        clear hv2 H2 K2 HI
        go_wp2_with fail
        rw [← he2]
        clear he2
        go_roundg (5 - (i + 1))
        case measure => omega
        case rel => exact ⟨i + 1, rfl, by omega, by omega, by omega, HI2⟩
    · have ei : i = 4 := by omega
      subst ei
      have HK : Hid (Kp w wr) := HI.out.1.k
      clear HI HG
      go_wp2_with fail
      with_reducible refine (kt _).mono ?_
      rintro _ w5 ⟨rfl, K5⟩
      have HK : Hid (Kp w w5) := HK.out.trans K5
      clear K5 kt
      go_wp2
      go_ret
      exact ⟨rfl, HK.out⟩

theorem grants_law (on : Bool) (va : Int) (na : Option Addr) (n cap : Nat) (V : Nat → EV) (w : World) (H : ES w na n V) (hv : (Lit.int .u64 va).wf = true) :
    Calls Try.prog 8 #[.slice na n cap, .bool on, .int .u64 va] w fun e w' => e = .returned (.bool true) ∧ Kp w w' := by
  obtain ⟨h1, h2⟩ := wf_word hv
  obtain ⟨u, rfl⟩ := Int.eq_ofNat_of_zero_le h1
  have hu : u < 18446744073709551616 := by omega
  have e2 := u64_and_nat u 131071 hu (by decide)
  have l2 : u &&& 131071 ≤ 131071 := Nat.and_le_right
  exact grants_walk na n cap V on u (u &&& 131071) w H e2 (by omega)

end Go.Proofs.Ytaldekfaebkpkaa
