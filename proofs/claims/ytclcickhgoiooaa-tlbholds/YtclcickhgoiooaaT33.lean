/- TlbHolds: behind its first loop. -/
import Derived.Test.YtclcickhgoiooaaT32
namespace Go.Proofs.Ytclcickhgoiooaa
open Go.RowKit
set_option maxRecDepth 10000

set_option maxHeartbeats 16000000 in
theorem holds15_rest {a0 a1 : Int} {na : Option Addr} {mc cap : Nat} {w wc : World} {m e s m7 k b g B : Nat} {u6 u11 u12 u13 u14 u15 u16 u17 u18 u19 u20 u21 u64 u50 u51 u52 u53 u54 u55 u56 u57 u58 u59 u60 u61 u62 u63 u65 u66 u67 u68 u69 u70 u71 u72 u73 u74 u75 u76 u77 u78 u79 u80 u81 u82 u83 u84 u85 u86 u87 u88 u89 u90 u91 u92 u93 u94 u95 u96 u97 u98 u99 u100 u101 u102 u103 u104 u105 u106 u107 u108 u109 u110 u111 u112 u113 u114 u115 u116 u117 u118 u119 u120 u121 u122 u123 u124 u125 u126 u127 u128 u129 u130 u131 u132 u133 u134 u135 u136 u137 u138 u139 u140 u141 u142 u143 u144 u145 u146 u147 u148 u149 u150 u151 u152 u153 u154 u155 u156 u157 u158 u159 u160 u161 u162 u163 u164 u165 u166 u167 u168 u169 u170 u171 u172 u173 u174 u175 u176 u177 u178 u179 : Value} (cT : ∀ (w : World), Calls Try.prog 19 #[] w fun e w' => e = Ending.returned (Value.bool true) ∧ Kp w w')
    (HP : Hid (1 ≤ s ∧ s ≤ 64 ∧ 1 ≤ k ∧ k ≤ 8)) (z1 : (s : Int) ≤ 64) (_z5 : ¬ (s : Int) = 0) (z6 : ¬ s = 0) (hcut : ∃ T L, L.length ≤ 80 ∧ Hid (HZt w wc b g s k B u11 T L)) :
    Code.wp Try.prog (sB (sB (sB (sB (sB (sB (bodyC Try.f4))))))) (bodyPost Try.prog Try.f4 fun e w' => e = Ending.returned (Value.bool true) ∧ Kp w w')
      { tmps := #[Value.int IntKind.i64 a0, Value.int IntKind.i64 a1, Value.slice na mc cap, undef, undef, undef, u6, Value.int IntKind.i64 ↑s, Value.int IntKind.i64 ↑k, Value.pointer (some { block := b, off := 0 }), Value.int IntKind.i64 0, u11, u12, u13, u14, u15, u16, u17, u18, u19, u20, u21, undef, undef, undef, undef, undef, undef, undef, undef, Value.int IntKind.i64 a0, Value.int IntKind.i64 ↑m, Value.int IntKind.i64 ↑e, Value.int IntKind.u64 ↑e, Value.int IntKind.i64 ↑s, Value.int IntKind.i64 a1, Value.int IntKind.i64 ↑m7, Value.int IntKind.i64 ↑k, Value.tuple #[Value.pointer (some { block := b, off := 0 }), Value.int IntKind.i64 0], Value.int IntKind.i64 ↑s, Value.int IntKind.i64 ↑k, Value.tuple #[Value.pointer (some { block := b, off := 0 }), Value.int IntKind.i64 0], Value.pointer (some { block := b, off := 0 }), Value.int IntKind.i64 0, Value.int IntKind.i64 0, Value.bool false, Value.bool false, Value.pointer (some { block := b, off := 0 }), Value.bool false, Value.bool false, u50, u51, u52, u53, u54, u55, u56, u57, u58, u59, u60, u61, u62, u63, u64, u65, u66, u67, u68, u69, u70, u71, u72, u73, u74, u75, u76, u77, u78, u79, u80, u81, u82, u83, u84, u85, u86, u87, u88, u89, u90, u91, u92, u93, u94, u95, u96, u97, u98, u99, u100, u101, u102, u103, u104, u105, u106, u107, u108, u109, u110, u111, u112, u113, u114, u115, u116, u117, u118, u119, u120, u121, u122, u123, u124, u125, u126, u127, u128, u129, u130, u131, u132, u133, u134, u135, u136, u137, u138, u139, u140, u141, u142, u143, u144, u145, u146, u147, u148, u149, u150, u151, u152, u153, u154, u155, u156, u157, u158, u159, u160, u161, u162, u163, u164, u165, u166, u167, u168, u169, u170, u171, u172, u173, u174, u175, u176, u177, u178, u179, undef, undef, undef, undef, undef, undef, undef, undef, undef, undef, undef, undef, undef, undef, undef, undef, undef, undef, undef, undef, undef, undef, undef, undef, undef, undef, undef, undef, undef, undef, undef, undef, undef, undef, undef, undef, undef, undef, undef, undef, undef, undef, undef, undef, undef, undef, undef, undef, undef, undef, undef, undef, undef, undef, undef, undef, undef, undef, undef, undef, undef, undef, undef, undef, undef, undef, undef, undef, undef, undef, undef, undef, undef, undef, undef, undef, undef, undef, undef, undef, undef, undef, undef, undef, undef, undef, undef, undef, undef, undef, undef, undef, undef, undef, undef, undef, undef, undef, undef, undef, undef, undef, undef, undef, undef, undef, undef, undef, undef, undef, undef, undef, undef, undef, undef, undef, undef, undef, undef, undef, undef, undef], defers := [] } wc := by
  conv => arg 2; whnf
  obtain ⟨T, L, pk, HI⟩ := hcut
  have cL := list_any HI.out.m.tp
  have hs := HP.out.1
  have hk := HP.out.2.2.1
  have HPU : Hid (∀ p, p < s * k → (T p).on = true → fndL T s k (T p).l.i (T p).l.a (T p).l.v = (T p).l ∧ fndB T s k (T p).l.i (T p).l.a (T p).l.v = true) := fun p hp hon => fnd_some HI.out.ti HI.out.uq hs hk hp hon
  have HCK : Hid (∀ c i, cnS (lsT T (s * k)) s c i ≤ k) := fun c i => cnS_k HI.out.ti hk c i
  have HAL : Hid (losN T (suB false false false false false zL) (s * k) = (lsT T (s * k)).length ∧ lsT (losT T (suB false false false false false zL) (s * k)) (s * k) = []) := los_all T zL (s * k)
  have HLE : Hid ((lsT T (s * k)).length ≤ 512) := Nat.le_trans (lsT_len _ _) HI.out.m.tp.n1
  have HMM : Hid (∀ i x, (lsT T (s * k))[i]? = some x → ∃ p, p < s * k ∧ (T p).on = true ∧ (T p).l = x) := fun i x hx => ls_mem hx
  obtain ⟨A, hA⟩ : ∃ A, lsT T (s * k) = A := ⟨_, rfl⟩
  rw [hA] at cL HCK HAL HLE HMM
  clear hA hs hk
  go_wp2_with fail
  with_reducible refine cL.mono ?_
  rintro e w2 ⟨⟨vA, rfl, LA⟩, K2⟩
  have Z2 := HI.out.kp K2
  have hmk := make_intsT s w2 (by have := HP.out; omega)
  obtain ⟨nA, cA, hee, _⟩ := LA.form
  subst hee
  obtain ⟨nl, cl, hee, _⟩ := Z2.m.ll.form
  subst hee
  obtain ⟨la, hla⟩ : ∃ la, A.length = la := ⟨_, rfl⟩
  obtain ⟨ln, hln⟩ : ∃ ln, L.length = ln := ⟨_, rfl⟩
  rw [hla] at LA ⊢
  rw [hln] at Z2 pk ⊢
  have HLA : Hid (A.length = la ∧ la ≤ 512) := ⟨hla, by have := HLE.out; omega⟩
  have HLN : Hid (L.length = ln) := hln
  have HZ3 : Hid (HZt w w2 b g s k B (.slice nl ln cl) T L ∧ LL w2 wc.heap.size (.slice nA la cA) A) := ⟨Z2, LA⟩
  clear cL K2 HI Z2 LA hla hln HLE
  go_upto_region 33 with fail
  obtain ⟨w3, hw3⟩ : ∃ w3, w3 = w2.alloc (.cells (zeroIt s) 3) := ⟨_, rfl⟩
  obtain ⟨bc, hbc⟩ : ∃ bc, bc = w2.heap.size := ⟨_, rfl⟩
  rw [← hw3, ← hbc]
  have K3 : Kp w2 w3 := by rw [hw3]; exact (Kp.refl w2).alloc _
  have I3 : Hid (ZCt w w3 b g s k B bc (.slice nl ln cl) (.slice nA la cA) T L A 0) := by
    have h1 := HZ3.out.1
    have h2 := HZ3.out.2
    refine ⟨h1.kp K3, (h2.low (Nat.zero_le _)).kp K3, ?_, by have := h1.m.tp.bl; omega, by have := h1.m.tp.row.lt; omega, fun x hx => by have := (h1.m.ll.up x hx).2; omega, fun x hx => by have := (h2.up x hx).2; omega, by rw [hbc]; exact h1.m.k.size⟩
    have := OIt.made w2 s
    rw [← hw3, ← hbc] at this
    exact this
  have z7 : (la : Int) ≤ 512 := by have := HLA.out.2; omega
  have z8 : (ln : Int) ≤ 80 := by omega
  have z9 : (k : Int) ≤ 8 := by have := HP.out; omega
  clear hw3 hbc K3 HZ3 hmk
  go_wp2_with fail
  go_loopg [24] la (fun gk v24 wr => ∃ i : Nat, v24 = .int .i64 (i : Int) ∧ i ≤ la ∧ la - i ≤ gk ∧ Hid (ZCt w wr b g s k B bc (.slice nl ln cl) (.slice nA la cA) T L A i))
  case atStart => exact ⟨0, rfl, by omega, by omega, I3⟩
  case round =>
    clear I3
    obtain ⟨i, rfl, i2, hgk, HR⟩ := hrel
    by_cases hi : i < la
    · have y1 : (i : Int) < la := by omega
      obtain ⟨x, hx⟩ : ∃ x, A[i]? = some x := ⟨_, List.getElem?_eq_getElem (by have := HLA.out; omega)⟩
      obtain ⟨p, p1, p2, p3⟩ := HMM.out i x hx
      have hf := HPU.out p p1 p2
      have hnw := HR.out.z.nw p p1 p2
      rw [p3] at hf hnw
      have HNW : Hid (∃ mm : Nat, nwI L x ln = (mm : Int) ∧ L[mm]? = some x) := by
        obtain ⟨mm, q1, q2⟩ := hnw
        exact ⟨mm, by rw [← HLN.out]; exact q1, q2⟩
      obtain ⟨nA', cA', hee, fw⟩ := HR.out.a.form
      simp only [Value.slice.injEq] at hee
      obtain ⟨g1, g2, g3⟩ := hee
      obtain ⟨gA, hgA0, hgA, _, cc⟩ := fw i x hx
      rw [← g1] at hgA0
      subst hgA0
      have o0 := cc 0 _ rfl
      have o1 := cc 1 _ rfl
      have o2 := cc 2 _ rfl
      simp only [Nat.add_zero] at o0
      have CFi : Aside (∀ v, Kp wr v → Calls Try.prog 13 #[.pointer (some ⟨b, 0, none⟩), .int .i64 x.i, .int .i64 x.a, .int .u64 (x.v : Int)] v fun e w' => e = .returned (.tuple #[.agg #[.int .i64 x.i, .int .i64 x.a, .int .u64 (x.v : Int), .int .u64 (x.p : Int), .int .i64 x.f, .bool x.r, .bool x.q, .bool x.x, .bool x.r2, .bool x.q2, .bool x.x2], .bool true]) ∧ Kp v w') := fun v kv => by
        have := find_any (HR.out.z.m.tp.kp kv) x.i x.a x.v
        rw [hf.1, hf.2] at this
        exact this
      have HX : Hid (A[i]? = some x) := hx
      clear fw cc g1 g2 g3 hf hnw p3 p1 p2 hx
      go_upto_region 36 with fail
      go_cut [25, 26] (fun v25 v26 wx => ∃ bx, v25 = .pointer (some ⟨bx, 0, none⟩) ∧ v26 = .bool true ∧ Hid (RX wx bx 54 (encL x) ∧ Kp wr wx ∧ wr.heap.size ≤ bx))
      case first =>
        have HSK : Hid (∀ v, Kp wr v → v.cell? ⟨gA, i * 11, none⟩ = some (.int .i64 x.i) ∧ v.cell? ⟨gA, i * 11 + 1, none⟩ = some (.int .i64 x.a) ∧ v.cell? ⟨gA, i * 11 + 2, none⟩ = some (.int .u64 (x.v : Int))) := fun v kv => ⟨(kv.cell (p := ⟨gA, i * 11, none⟩) hgA).trans o0, (kv.cell (p := ⟨gA, i * 11 + 1, none⟩) hgA).trans o1, (kv.cell (p := ⟨gA, i * 11 + 2, none⟩) hgA).trans o2⟩
        have ZF : Hid (∀ w4, Kp (wr.alloc (.cells #[.int .i64 0, .int .i64 0, .int .u64 0, .int .u64 0, .int .i64 0, .bool false, .bool false, .bool false, .bool false, .bool false, .bool false] 54)).drew w4 → RX w4 wr.heap.size 54 (encL zL)) := fun w4 F => ((RX.made wr 54 (encL zL)).kp (Kp.refl _).drew).kp F
        have n2 : ¬ gA = wr.heap.size := by omega
        have n4 : ¬ wr.heap.size = gA := by omega
        go_region_held3 (fun v => v.cell? ⟨gA, i * 11, none⟩ = some (.int .i64 x.i) ∧ v.cell? ⟨gA, i * 11 + 1, none⟩ = some (.int .i64 x.a) ∧ v.cell? ⟨gA, i * 11 + 2, none⟩ = some (.int .u64 (x.v : Int)))
          (first | go_keep | exact HSK.out _ ((Kp.refl _).drew.trans K4) | exact HSK.out _ (((Kp.refl _).alloc _).drew.trans K4) | exact HSK.out _ ((Kp.refl _).drew.trans (K4.alloc _)))
          (first | (go_at_call 13; first | (with_reducible refine (CFi.out _ (by exact (Kp.refl _).drew)).mono ?_; rintro e w4 ⟨rfl, K4⟩) | (with_reducible refine (CFi.out _ (by exact ((Kp.refl _).alloc _).drew)).mono ?_; rintro e w4 ⟨rfl, K4⟩; have Y4 := ZF.out _ K4; have fy := Y4.fz; have e0 := Y4.cell (j := 0) rfl; have e1 := Y4.cell (j := 1) rfl; have e2 := Y4.cell (j := 2) rfl; have e3 := Y4.cell (j := 3) rfl; have e4 := Y4.cell (j := 4) rfl; have e5 := Y4.cell (j := 5) rfl; have e6 := Y4.cell (j := 6) rfl; have e7 := Y4.cell (j := 7) rfl; have e8 := Y4.cell (j := 8) rfl; have e9 := Y4.cell (j := 9) rfl; have e10 := Y4.cell (j := 10) rfl)))
        all_goals go_wp2_with fail
        all_goals go_meet
        all_goals first | (have Y5 := Y4; rw [← putR_11z]; exact ⟨wr.heap.size, rfl, rfl, Y5.put (U := encL x) rfl, Kp.putR (Nat.le_refl _) _ _ _ (((Kp.refl wr).alloc _).drew.trans K4), Nat.le_refl _⟩) | exact ⟨w4.heap.size, rfl, rfl, RX.made w4 54 (encL x), ((Kp.refl wr).drew.trans K4).alloc _, K4.size⟩
      case rest =>
        obtain ⟨bx, rfl, rfl, HXc⟩ := hcut
        have Zc := HR.out.kp HXc.out.2.1
        have Xc := HXc.out.1
        obtain ⟨q, hq⟩ : ∃ q, x.v % s = q := ⟨_, rfl⟩
        have qs : q < s := by rw [← hq]; exact Nat.mod_lt _ HP.out.1
        have q2 : (x.v : Int).tmod (s : Int) = (q : Int) := by rw [← hq]; rfl
        have o2 : wc.cell? ⟨gA, i * 11 + 2, none⟩ = some (.int .u64 (x.v : Int)) := (HXc.out.2.1.cell (p := ⟨gA, i * 11 + 2, none⟩) hgA).trans o2
        have oc := Zc.c.cell q qs
        have fc := Zc.c.frz
        obtain ⟨cq, hcq⟩ : ∃ cq, cnS A s q i + 1 = cq := ⟨_, rfl⟩
        have hck : cq ≤ k := by
          have := HCK.out q (i + 1)
          rw [cnS_on HX.out, if_pos hq] at this
          omega
        obtain ⟨c0, hc0⟩ : ∃ c0, cnS A s q i = c0 := ⟨_, rfl⟩
        rw [hc0] at oc
        have q6 : (c0 : Int) + 1 = (cq : Int) := by omega
        have y3 : (q : Int) < s := by omega
        have y5 : ¬ (k : Int) < (cq : Int) := by omega
        have y6 : ¬ k < cq := by omega
        have Zu := Zc.up HX.out hq hcq
        have fx : Fr (· = bc) wc (wc.setCell ⟨bc, q, none⟩ (.int .i64 (cq : Nat))) := (Fr.refl (· = bc) wc).set _ _ rfl
        have Xu := Xc.fr fx (by have := HXc.out.2.2; have := HR.out.c.lt; omega)
        have HZ5 : Hid (ZCt w (wc.setCell ⟨bc, q, none⟩ (.int .i64 (cq : Nat))) b g s k B bc (.slice nl ln cl) (.slice (some ⟨gA, 0, none⟩) la cA) T L A (i + 1) ∧ RX (wc.setCell ⟨bc, q, none⟩ (.int .i64 (cq : Nat))) bx 54 (encL x)) := ⟨Zu, Xu⟩
        clear Zc Xc Zu Xu fx HR HXc CFi o0 o1 hck
        go_upto_region 39 with fail
        obtain ⟨w5, hw5⟩ : ∃ w5, w5 = wc.setCell ⟨bc, q, none⟩ (.int .i64 (cq : Nat)) := ⟨_, rfl⟩
        rw [← hw5]
        rw [← hw5] at HZ5
        have oq : w5.cell? ⟨bc, q, none⟩ = some (.int .i64 (cq : Nat)) := by
          have := HZ5.out.1.c.cell q qs
          rw [cnS_on HX.out, if_pos hq, hcq] at this
          exact this
        obtain ⟨nA', cA', hee, fw⟩ := HZ5.out.1.a.form
        simp only [Value.slice.injEq] at hee
        obtain ⟨g1, g2, g3⟩ := hee
        obtain ⟨gA', hgA0, _, _, cc⟩ := fw i x HX.out
        rw [← g1] at hgA0
        cases hgA0
        have p0 := cc 0 _ rfl
        have p1 := cc 1 _ rfl
        have p2 := cc 2 _ rfl
        have p3 := cc 3 _ rfl
        have p4 := cc 4 _ rfl
        have p5 := cc 5 _ rfl
        have p6 := cc 6 _ rfl
        have p7 := cc 7 _ rfl
        have p8 := cc 8 _ rfl
        have p9 := cc 9 _ rfl
        have p10 := cc 10 _ rfl
        simp only [Nat.add_zero] at p0
        have X5 := HZ5.out.2
        have d0 := X5.cell (j := 0) rfl
        have d1 := X5.cell (j := 1) rfl
        have d2 := X5.cell (j := 2) rfl
        have d3 := X5.cell (j := 3) rfl
        have d4 := X5.cell (j := 4) rfl
        have d5 := X5.cell (j := 5) rfl
        have d6 := X5.cell (j := 6) rfl
        have d7 := X5.cell (j := 7) rfl
        have d8 := X5.cell (j := 8) rfl
        have d9 := X5.cell (j := 9) rfl
        have d10 := X5.cell (j := 10) rfl
        have q1 : ∀ w, (Op.equalIn 10000 54 (lnV x) (lnV x)).run Try.prog w = .ok true w := fun w => by rw [eq_line, samL_refl]
        simp only [lnV] at q1
        have HZ6 : Hid (∀ nq, ZCt w (w5.drewN nq) b g s k B bc (.slice nl ln cl) (.slice (some ⟨gA, 0, none⟩) la cA) T L A (i + 1) ∧ RX (w5.drewN nq) bx 54 (encL x)) := fun nq => ⟨HZ5.out.1.kp ((Kp.refl _).drewN nq), HZ5.out.2.kp ((Kp.refl _).drewN nq)⟩
        clear fw cc g1 g2 g3 hw5 HZ5 X5 oc fc o2 hcq hc0 hq q2 q6
        go_quiet (fail)
        obtain ⟨w7, hw7⟩ : ∃ w7, w7 = w5.drewN nq := ⟨_, rfl⟩
        rw [← hw7]
        have HZ7 : Hid (ZCt w w7 b g s k B bc (.slice nl ln cl) (.slice (some ⟨gA, 0, none⟩) la cA) T L A (i + 1) ∧ RX w7 bx 54 (encL x)) := by rw [hw7]; exact HZ6.out nq
        clear hw7 HZ6 oq p0 p1 p2 p3 p4 p5 p6 p7 p8 p9 p10 d0 d1 d2 d3 d4 d5 d6 d7 d8 d9 d10
        go_wp2_with fail
        go_loopg [28, 29] ln (fun gk v28 v29 wr => ∃ j : Nat, v29 = .int .i64 (j : Int) ∧ v28 = .int .i64 (nwI L x j) ∧ j ≤ ln ∧ ln - j ≤ gk ∧ Hid (Kp w7 wr))
        case atStart => exact ⟨0, rfl, rfl, by omega, by omega, Kp.refl _⟩
        case round =>
          obtain ⟨j, rfl, rfl, j2, hgj, HKj⟩ := hrel
          have Zr := HZ7.out.1.kp HKj.out
          have Xr := HZ7.out.2.kp HKj.out
          by_cases hj : j < ln
          · have y8 : (j : Int) < ln := by omega
            obtain ⟨y, hy⟩ : ∃ y, L[j]? = some y := ⟨_, List.getElem?_eq_getElem (by have := HLN.out; omega)⟩
            obtain ⟨nl', cl', hee, fw⟩ := Zr.z.m.ll.form
            simp only [Value.slice.injEq] at hee
            obtain ⟨g1, g2, g3⟩ := hee
            obtain ⟨gl, hgl0, hgl, _, cc⟩ := fw j y hy
            rw [← g1] at hgl0
            subst hgl0
            have p0 := cc 0 _ rfl
            have p1 := cc 1 _ rfl
            have p2 := cc 2 _ rfl
            simp only [Nat.add_zero] at p0
            have d0 := Xr.cell (j := 0) rfl
            have d1 := Xr.cell (j := 1) rfl
            have d2 := Xr.cell (j := 2) rfl
            have hn := nwI_on (x := x) hy
            have nb : nwB x y = ((y.i == x.i) && ((y.a == x.a) && ((y.v : Int) == (x.v : Int)))) := rfl
            rw [nb] at hn
            clear cc fw g1 g2 g3 nb Zr Xr hy
            obtain ⟨b1, h1⟩ : ∃ b1, (y.i == x.i) = b1 := ⟨_, rfl⟩
            obtain ⟨b2, h2⟩ : ∃ b2, (y.a == x.a) = b2 := ⟨_, rfl⟩
            obtain ⟨b3, h3⟩ : ∃ b3, ((y.v : Int) == (x.v : Int)) = b3 := ⟨_, rfl⟩
            have h4 : (y.v == x.v) = b3 := by rw [← h3, Bool.eq_iff_iff]; simp; omega
            rw [h1, h2, h3] at hn
            have HKq : Hid (∀ nq, Kp w7 (wr.drewN nq)) := fun nq => HKj.out.drewN nq
            generalize nwI L x j = nz at *
            clear HKj
            go_upto_region 45 with fail
            cases b1
            · have HN : Hid (nwI L x (j + 1) = nz) := by rw [hn]; rfl
              clear hn
              go_quiet (fail)
              go_wp2_with fail
              go_roundg (ln - (j + 1))
              case measure => omega
              case rel => exact ⟨j + 1, by go_num, by rw [HN.out], by omega, by omega, HKq.out _⟩
            cases b2
            · have HN : Hid (nwI L x (j + 1) = nz) := by rw [hn]; rfl
              clear hn
              go_quiet (fail)
              go_wp2_with fail
              go_roundg (ln - (j + 1))
              case measure => omega
              case rel => exact ⟨j + 1, by go_num, by rw [HN.out], by omega, by omega, HKq.out _⟩
            cases b3
            · have HN : Hid (nwI L x (j + 1) = nz) := by rw [hn]; rfl
              clear hn
              go_quiet (fail)
              go_wp2_with fail
              go_roundg (ln - (j + 1))
              case measure => omega
              case rel => exact ⟨j + 1, by go_num, by rw [HN.out], by omega, by omega, HKq.out _⟩
            · have HN : Hid (nwI L x (j + 1) = (j : Int)) := by rw [hn]; rfl
              clear hn
              go_quiet (fail)
              go_wp2_with fail
              go_roundg (ln - (j + 1))
              case measure => omega
              case rel => exact ⟨j + 1, by go_num, by rw [HN.out], by omega, by omega, HKq.out _⟩
          · have ej : j = ln := by omega
            subst ej
            obtain ⟨mm, e1, e2⟩ := HNW.out
            rw [e1]
            have m2 : mm < j := by have := (List.getElem?_eq_some_iff.1 e2).1; have := HLN.out; omega
            have y8 : (mm : Int) < j := by omega
            have y9 : ¬ (mm : Int) < 0 := by omega
            obtain ⟨nl', cl', hee, fw⟩ := Zr.z.m.ll.form
            simp only [Value.slice.injEq] at hee
            obtain ⟨g1, g2, g3⟩ := hee
            obtain ⟨gl, hgl0, hgl, _, cc⟩ := fw mm x e2
            rw [← g1] at hgl0
            subst hgl0
            have p0 := cc 0 _ rfl
            have p1 := cc 1 _ rfl
            have p2 := cc 2 _ rfl
            have p3 := cc 3 _ rfl
            have p4 := cc 4 _ rfl
            have p5 := cc 5 _ rfl
            have p6 := cc 6 _ rfl
            have p7 := cc 7 _ rfl
            have p8 := cc 8 _ rfl
            have p9 := cc 9 _ rfl
            have p10 := cc 10 _ rfl
            simp only [Nat.add_zero] at p0
            have d0 := Xr.cell (j := 0) rfl
            have d1 := Xr.cell (j := 1) rfl
            have d2 := Xr.cell (j := 2) rfl
            have d3 := Xr.cell (j := 3) rfl
            have d4 := Xr.cell (j := 4) rfl
            have d5 := Xr.cell (j := 5) rfl
            have d6 := Xr.cell (j := 6) rfl
            have d7 := Xr.cell (j := 7) rfl
            have d8 := Xr.cell (j := 8) rfl
            have d9 := Xr.cell (j := 9) rfl
            have d10 := Xr.cell (j := 10) rfl
            have HE : Hid (∀ nq, ZCt w (wr.drewN nq) b g s k B bc (.slice (some ⟨gl, 0, none⟩) j cl) (.slice (some ⟨gA, 0, none⟩) la cA) T L A (i + 1)) := fun nq => Zr.kp ((Kp.refl _).drewN nq)
            clear cc fw g1 g2 g3 Zr Xr e1 e2 HKj HNW
            go_upto_region 47 with fail
            go_quiet (fail)
            go_wp2_with fail
            go_roundg (la - (i + 1))
            case measure => omega
            case rel => exact ⟨i + 1, by go_num, by omega, by omega, HE.out _⟩
    · have ei : i = la := by omega
      subst ei
      have Z1 := HR.out.z
      have HZ8 : Hid (HZt w wr b g s k B (.slice nl ln cl) T L) := Z1
      clear HR Z1
      go_wp2_with fail
      with_reducible refine (cT _).mono ?_
      rintro e w5 ⟨rfl, K5⟩
      have Z5 := HZ8.out.kp K5
      have cA1 := all_any Z5.m.tp zL
      rw [HAL.out.1, HLA.out.1] at cA1
      have HZ9 : Hid (HZt w w5 b g s k B (.slice nl ln cl) T L) := Z5
      clear K5 Z5 HZ8 cT
      go_wp2_with fail
      with_reducible refine cA1.mono ?_
      rintro e w6 ⟨rfl, T6, F6⟩
      have cL2 := list_any T6
      rw [HAL.out.2] at cL2
      have HK6 : Hid (Kp w w6) := (HZ9.out.m.st T6 F6).k
      have y4 : ((i : Int) == (i : Int)) = true := by simp
      have y5 : (i == i) = true := by simp
      clear cA1 T6 F6 HZ9
      go_wp2_with fail
      with_reducible refine cL2.mono ?_
      rintro e w8 ⟨⟨v8, rfl, L8⟩, K8⟩
      obtain ⟨n8, c8, hee, _⟩ := L8.form
      subst hee
      have HK8 : Hid (Kp w w8) := HK6.out.trans K8
      clear cL2 L8 K8 HK6
      rw [List.length_nil]
      go_wp2
      go_ret
      exact ⟨rfl, HK8.out⟩


end Go.Proofs.Ytclcickhgoiooaa
