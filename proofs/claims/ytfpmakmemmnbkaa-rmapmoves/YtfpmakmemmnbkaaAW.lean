/- demesnelaw17: RmapMoves. -/
import Derived.Test.YtfpmakmemmnbkaaAV
import Derived.Test.YtfpmakmemmnbkaaKB
import Derived.Deep.RegionHeld3
import Derived.Deep.CutBlock
import Derived.Deep.DeepCutAuto
namespace Go.Proofs.Ytfpmakmemmnbkaa
open Go.RowKit
set_option maxRecDepth 10000

set_option maxHeartbeats 16000000 in
theorem moves17_any (na : Option Addr) (mc cap : Nat) (V : Nat → Int × UC) (w : World) (hO : Steps w na mc V) (hm : mc ≤ maxLen) :
    Calls Try.prog 5 #[.slice na mc cap] w fun e w' => e = .returned (.bool true) ∧ Kp w w' := by
  have cN := rnew_any w
  have cT : Aside (∀ w, Calls Try.prog 19 #[] w fun e w' => e = .returned (.bool true) ∧ Kp w w') := fun w => mtold_any w
  have HO : Hid (Steps w na mc V) := hO
  have y0 : (mc : Int) ≤ 9223372036854775807 := by unfold maxLen at hm; omega
  clear hO hm
  go_enter Try.func5, Try.ntmps5
  go_wp2_with fail
  with_reducible refine cN.mono ?_
  rintro e w1 ⟨p, U, bm, g, K, rfl, m1, k1, u1⟩
  clear cN
  obtain ⟨w2, hw2⟩ : ∃ w2, w2 = w1.alloc (.map #[] 0) := ⟨_, rfl⟩
  have hr : (Instr.makeMap 47 none).run Try.prog w1 = .ok (.map (some w1.heap.size)) w2 := by rw [hw2]; exact run_makeMap 47 w1
  have I0 : Hid (PMv w w2 p w1.heap.size []) := PMv.made ⟨U, bm, g, K, m1, k1, u1⟩ hw2
  generalize w1.heap.size = b at *
  clear m1 k1 u1 hw2
  go_upto_block 0 with fail
  go_cut [] (fun wx => ∃ T : List UC, Hid (PMv w wx p b T ∧ T.length ≤ 60 ∧ Low8 T))
  case first =>
    go_wp2_with fail
    go_loopg [5] 61 (fun gk v5 wr => ∃ (i : Nat) (T : List UC), v5 = .int .i64 (i : Int) ∧ i ≤ 60 ∧ 61 - i ≤ gk ∧ Hid (PMv w wr p b T ∧ T.length ≤ i ∧ Low8 T))
    case atStart => exact ⟨0, [], rfl, by omega, by omega, I0.out, Nat.le_refl 0, fun _ h => by cases h⟩
    case round =>
      clear I0
      obtain ⟨i, T, rfl, hi, hgk, HI⟩ := hrel
      by_cases hlt : i < mc ∧ i < 60
      · have y1 : (i : Int) < mc := by omega
        have y2 : (i : Int) < 60 := by omega
        obtain ⟨⟨cb, co, rfl, d1, d2⟩, _, wo⟩ := HO.out i hlt.1
        obtain ⟨o, ho⟩ : ∃ o, o = V i := ⟨_, rfl⟩
        rw [← ho] at d2 wo
        obtain ⟨kd, fr, pg, pp⟩ := o
        have o1 := (HI.out.1.k.cell (p := ⟨cb, co + i * 4 + 1, none⟩) d1).trans (d2 1 _ rfl)
        have o2 := (HI.out.1.k.cell (p := ⟨cb, co + i * 4 + 2, none⟩) d1).trans (d2 2 _ rfl)
        have o3 : wr.cell? ⟨cb, co + i * 4 + 2 + 1, none⟩ = some (.int .u64 pp) := (HI.out.1.k.cell (p := ⟨cb, co + i * 4 + 3, none⟩) d1).trans (d2 3 _ rfl)
        have KO : Aside (∀ v, Kp wr v → v.cell? ⟨cb, co + i * 4 + 1, none⟩ = some (.int .i64 fr)) := fun v k => kp_known k o1
        obtain ⟨xc, hxc⟩ : ∃ xc : Int, 1 + pg % 4 = xc := ⟨_, rfl⟩
        have r1 : bits .and .i64 pg 3 = pg % 4 := mask2 _
        have b1 : 0 ≤ pg % 4 ∧ pg % 4 < 4 := ⟨Int.emod_nonneg _ (by decide), Int.emod_lt_of_pos _ (by decide)⟩
        obtain ⟨xb, r2, b2⟩ : ∃ xb : Int, bits .and .u64 pp 3 = xb ∧ (Lit.int .u64 xb).wf = true := ⟨_, rfl, wf_bits _ _ _ _⟩
        generalize pg % 4 = xm at *
        have wx : okP (xc, xb) := ⟨WalkArith.wf_i64 (by omega), b2⟩
        have HX : Hid (okP (xc, xb)) := wx
        have HI2 : Hid (PMv w wr p b T ∧ T.length ≤ i ∧ Low8 T) := HI
        have ka : Kp wr (wr.alloc (.cells #[.int .i64 0, .int .u64 0] 31)).drew := ((Kp.refl wr).alloc _).drew
        have p2 := kp_known ka o2
        have p3 := kp_known ka o3
        have q2 := kp_known (Kp.refl wr).drew o2
        have q3 := kp_known (Kp.refl wr).drew o3
        clear b2 wx d2 wo ho d1 ka
        go_wp2_with fail
        go_region
        have HKO := KO.out _ ((Kp.refl wr).alloc (.cells #[.int .i64 xc, .int .u64 xb] 31)).drew
        have X3 : PMX w (wr.alloc (.cells #[.int .i64 xc, .int .u64 xb] 31)).drew p b wr.heap.size (xc, xb) T T := HI2.out.1.box ((Kp.refl wr).alloc _).drew (Nat.le_refl _) (heap_alloc_new wr _)
        have lt : T.length ≤ i := HI2.out.2.1
        have lo : Low8 T := HI2.out.2.2
        clear KO HI2 o1 o2 o3 p2 p3 q2 q3
        generalize (wr.alloc (.cells #[.int .i64 xc, .int .u64 xb] 31)).drew = w3 at *
        generalize wr.heap.size = bo at *
        obtain ⟨f, r3, b3, b4⟩ : ∃ f : Int, bits .and .i64 fr 7 = f ∧ 0 ≤ f ∧ f < 8 := ⟨_, i64_mask 3 7 fr (by decide) (by decide), Int.emod_nonneg _ (by decide), Int.emod_lt_of_pos _ (by decide)⟩
        obtain ⟨c0, c1⟩ := X3.cells
        dsimp only at c0 c1
        have nd := X3.mt.nd
        by_cases hq : (xc, xb) ∈ T.map (·.2)
        · obtain ⟨⟨f0, x0⟩, hm, ex⟩ := List.mem_map.1 hq
          dsimp only at ex
          subst ex
          have lk := X3.mt.look hm
          unfold plV at lk
          dsimp only at lk
          have cD := X3.drop f0 hm (by omega)
          obtain ⟨T0, hT0⟩ : ∃ T0, T0 = T.erase (f0, (xc, xb)) := ⟨_, rfl⟩
          obtain ⟨e1, e2⟩ := addT_new b3 (show ¬ (f, (xc, xb)) ∈ T0 by rw [hT0]; exact not_erased nd hm)
          have hT : (¬ (xc, xb) ∈ T.map (·.2) ∧ T0 = T) ∨ ∃ f0, (f0, (xc, xb)) ∈ T ∧ T0 = T.erase (f0, (xc, xb)) := .inr ⟨f0, hm, hT0⟩
          have l0 : T0.length ≤ i := by rw [hT0]; exact Nat.le_trans (erase_len _ _) lt
          have lo : Low8 T0 := fun t ht => lo t (by rw [hT0] at ht; exact List.mem_of_mem_erase ht)
          rw [← hT0] at cD
          have HU : Hid (okU (f, (xc, xb))) := ⟨WalkArith.wf_i64 (by omega), HX.out⟩
          have cA := fun (v : World) (h : PMX w v p b bo (xc, xb) T0 T) => h.add f HU.out (by omega) e1 e2
          have cA : Aside (∀ v, PMX w v p b bo (xc, xb) T0 T → Calls Try.prog 7 #[.pointer (some ⟨p, 0, none⟩), .int .i64 f, .agg #[.int .i64 xc, .int .u64 xb]] v fun e w' => e = .returned (.int .i64 0) ∧ PMX w w' p b bo (xc, xb) (T0 ++ [(f, (xc, xb))]) T) := cA
          have HT : Hid (((¬ (xc, xb) ∈ T.map (·.2) ∧ T0 = T) ∨ ∃ f0, (f0, (xc, xb)) ∈ T ∧ T0 = T.erase (f0, (xc, xb))) ∧ T.length ≤ 100 ∧ (T0 ++ [(f, (xc, xb))]).length ≤ i + 1 ∧ Low8 (T0 ++ [(f, (xc, xb))])) := ⟨hT, by omega, by simp; omega, low_add lo b3 b4⟩
          clear X3 hT0 e1 e2 hT l0 lo nd hq hm lt r1 r2
          go_wp2_with fail
          with_reducible refine cD.mono ?_
          rintro e w4 ⟨rfl, X4⟩
          clear cD lk c0 c1 HKO
          have cA4 := cA.out _ X4
          obtain ⟨c0, c1⟩ := X4.cells
          dsimp only at c0 c1
          clear cA X4
          go_wp2_with fail
          with_reducible refine cA4.mono ?_
          rintro e w5 ⟨rfl, X5⟩
          obtain ⟨c0, c1⟩ := X5.cells
          dsimp only at c0 c1
          obtain ⟨w6, r6, M6⟩ := X5.store HU.out HT.out.1 HT.out.2.1
          have r6' : (Instr.mapUpdate 47 (.map (some b)) (.agg #[.int .i64 xc, .int .u64 xb]) (.int .i64 f)).run Try.prog w5 = .ok () w6 := r6
          have H6 : Hid (PMv w w6 p b (T0 ++ [(f, (xc, xb))]) ∧ (T0 ++ [(f, (xc, xb))]).length ≤ i + 1 ∧ Low8 (T0 ++ [(f, (xc, xb))])) := ⟨M6, HT.out.2.2.1, HT.out.2.2.2⟩
          generalize T0 ++ [(f, (xc, xb))] = T' at *
          clear cA4 X5 r6 M6 HT HU HX
          go_wp2_with fail
          go_roundg (61 - (i + 1))
          case measure => omega
          case rel => exact ⟨i + 1, T', by go_num, by omega, by omega, H6⟩
        · obtain ⟨c, lk⟩ := X3.mt.look_no HX.out hq
          unfold plV at lk
          dsimp only at lk
          obtain ⟨T0, hT0⟩ : ∃ T0, T0 = T := ⟨_, rfl⟩
          obtain ⟨e1, e2⟩ := addT_new b3 (show ¬ (f, (xc, xb)) ∈ T0 by rw [hT0]; exact fun c => hq (List.mem_map.2 ⟨_, c, rfl⟩))
          have hT : (¬ (xc, xb) ∈ T.map (·.2) ∧ T0 = T) ∨ ∃ f0, (f0, (xc, xb)) ∈ T ∧ T0 = T.erase (f0, (xc, xb)) := .inl ⟨hq, hT0⟩
          have l0 : T0.length ≤ i := by rw [hT0]; exact lt
          have lo : Low8 T0 := by rw [hT0]; exact lo
          have X4 : PMX w w3 p b bo (xc, xb) T0 T := by rw [hT0]; exact X3
          have HU : Hid (okU (f, (xc, xb))) := ⟨WalkArith.wf_i64 (by omega), HX.out⟩
          have cA := fun (v : World) (h : PMX w v p b bo (xc, xb) T0 T) => h.add f HU.out (by omega) e1 e2
          have cA : Aside (∀ v, PMX w v p b bo (xc, xb) T0 T → Calls Try.prog 7 #[.pointer (some ⟨p, 0, none⟩), .int .i64 f, .agg #[.int .i64 xc, .int .u64 xb]] v fun e w' => e = .returned (.int .i64 0) ∧ PMX w w' p b bo (xc, xb) (T0 ++ [(f, (xc, xb))]) T) := cA
          have HT : Hid (((¬ (xc, xb) ∈ T.map (·.2) ∧ T0 = T) ∨ ∃ f0, (f0, (xc, xb)) ∈ T ∧ T0 = T.erase (f0, (xc, xb))) ∧ T.length ≤ 100 ∧ (T0 ++ [(f, (xc, xb))]).length ≤ i + 1 ∧ Low8 (T0 ++ [(f, (xc, xb))])) := ⟨hT, by omega, by simp; omega, low_add lo b3 b4⟩
          clear X3 hT0 e1 e2 hT l0 lo nd hq lt r1 r2
          have cA4 := cA.out _ X4
          clear cA X4
          go_wp2_with fail
          with_reducible refine cA4.mono ?_
          rintro e w5 ⟨rfl, X5⟩
          obtain ⟨c0, c1⟩ := X5.cells
          dsimp only at c0 c1
          obtain ⟨w6, r6, M6⟩ := X5.store HU.out HT.out.1 HT.out.2.1
          have r6' : (Instr.mapUpdate 47 (.map (some b)) (.agg #[.int .i64 xc, .int .u64 xb]) (.int .i64 f)).run Try.prog w5 = .ok () w6 := r6
          have H6 : Hid (PMv w w6 p b (T0 ++ [(f, (xc, xb))]) ∧ (T0 ++ [(f, (xc, xb))]).length ≤ i + 1 ∧ Low8 (T0 ++ [(f, (xc, xb))])) := ⟨M6, HT.out.2.2.1, HT.out.2.2.2⟩
          generalize T0 ++ [(f, (xc, xb))] = T' at *
          clear cA4 X5 r6 M6 HT HU HX
          go_wp2_with fail
          go_roundg (61 - (i + 1))
          case measure => omega
          case rel => exact ⟨i + 1, T', by go_num, by omega, by omega, H6⟩
      · have HJ : Hid (PMv w wr p b T ∧ T.length ≤ 60 ∧ Low8 T) := ⟨HI.out.1, by have := HI.out.2.1; omega, HI.out.2.2⟩
        clear HI
        by_cases hm : i < mc
        · have ei : i = 60 := by omega
          subst ei
          have y1 : (60 : Int) < mc := by omega
          rw [show ((60 : Nat) : Int) = 60 from rfl]
          go_wp2_with fail
          go_meet
          case rel => exact ⟨T, HJ⟩
        · have y1 : ¬ (i : Int) < mc := by omega
          go_wp2_with fail
          go_meet
          case rel => exact ⟨T, HJ⟩
  case rest =>
    obtain ⟨T, HI⟩ := hcut
    clear I0
    obtain ⟨F, hF⟩ : ∃ F, frT T = F := ⟨_, rfl⟩
    have cA := HI.out.1.frames (by have := HI.out.2.1; omega)
    rw [hF] at cA
    have lF : F.length ≤ 60 := by rw [← hF]; have := frL_len T; have := HI.out.2.1; omega
    have HS : Hid ((∀ f ∈ F, 0 ≤ f ∧ f < 8) ∧ (∀ i, sumU T F i ≤ T.length) ∧ sumU T F F.length = T.length ∧ T.length ≤ 60 ∧ usT T 9 = []) := by
      have h1 := sumU_all T
      rw [hF] at h1
      refine ⟨fun f hf => ?_, fun i => by rw [← h1]; exact sumU_mono T F i, h1, HI.out.2.1, HI.out.2.2.nine⟩
      rw [← hF, frT_mem] at hf
      obtain ⟨t, ht, rfl⟩ := List.mem_map.1 hf
      exact HI.out.2.2 t ht
    clear hF HI
    go_wp2_with fail
    with_reducible refine cA.mono ?_
    rintro e w3 ⟨⟨va, rfl, sa⟩, M3, _⟩
    obtain ⟨nf, cf, rfl, af⟩ := sa
    obtain ⟨m, hm⟩ : ∃ m, m = F.length := ⟨_, rfl⟩
    have HM : Hid (m = F.length) := hm
    have I1 : Hid (PMv w w3 p b T ∧ AS LTi w3 nf F) := ⟨M3, af⟩
    have lm : (m : Int) ≤ 60 := by omega
    rw [← hm]
    clear cA M3 af hm lF
    go_wp2_with fail
    go_loopg [10, 12] (m + 1) (fun gk v10 v12 wr => ∃ (i : Nat), v10 = .int .i64 ((sumU T F i : Nat) : Int) ∧ v12 = .int .i64 (i : Int) ∧ i ≤ m ∧ m + 1 - i ≤ gk ∧ Hid (PMv w wr p b T ∧ AS LTi wr nf F))
    case atStart => exact ⟨0, rfl, rfl, by omega, by omega, I1⟩
    case round =>
      clear I1
      obtain ⟨i, rfl, rfl, hi, hgk, HI⟩ := hrel
      by_cases hlt : i < m
      · have z1 : (i : Int) < m := by omega
        obtain ⟨f, hf⟩ : ∃ f, F[i]? = some f := ⟨_, List.getElem?_eq_getElem (by have := HM.out; omega)⟩
        obtain ⟨g, o, rfl, hc⟩ := AS.elem okT_num HI.out.2 hf
        have c0 : wr.cell? ⟨g, o + i, none⟩ = some (.int .i64 f) := by have := hc 0 _ rfl; rwa [show LTi.sz = 1 from rfl, Nat.mul_one, Nat.add_zero] at this
        obtain ⟨L, hL⟩ : ∃ L, srtP (usT T f) = L := ⟨_, rfl⟩
        have hlen : L.length ≤ 60 := by rw [← hL, srtP_len]; have := usT_len T f; have := HS.out.2.2.2.1; omega
        have fb := HS.out.1 f (List.mem_of_getElem? hf)
        have cL := HI.out.1.list f (WalkArith.wf_i64 (by omega)) (by have := HS.out.2.2.2.1; omega)
        rw [hL] at cL
        obtain ⟨s1, hs1⟩ : ∃ s1 : Nat, s1 = sumU T F i := ⟨_, rfl⟩
        obtain ⟨s2, hs2⟩ : ∃ s2 : Nat, s2 = sumU T F (i + 1) := ⟨_, rfl⟩
        have hs : (s1 : Int) + (L.length : Nat) = s2 := by rw [hs2, sumU_succ T hf, ← hs1, ← hL, srtP_len]; omega
        have hs3 : (s2 : Int) ≤ 60 := by have := HS.out.2.1 (i + 1); have := HS.out.2.2.2.1; omega
        have H2 : Hid (s2 = sumU T F (i + 1)) := hs2
        have HL : Hid (∀ x ∈ L, (f, x) ∈ T) := (show ∀ x ∈ L, (f, x) ∈ T from fun x hx => usT_mem.1 ((srtP_perm _).mem_iff.1 (by rw [hL]; exact hx)))
        rw [← hs1]
        have H3 : Hid (AS LTi wr (some ⟨g, o, none⟩) F) := HI.out.2
        have HF : Hid (F[i]? = some f) := hf
        clear hL hs1 hs2 fb HI hf hc
        go_wp2_with fail
        with_reducible refine cL.mono ?_
        rintro e w4 ⟨⟨vl, rfl, sl⟩, M4, k4⟩
        obtain ⟨nl, cl, rfl, al⟩ := sl
        obtain ⟨k, hk⟩ : ∃ k, k = L.length := ⟨_, rfl⟩
        have HK : Hid (k = L.length) := hk
        have I4 : Hid (PMv w w4 p b T ∧ AS LTi w4 (some ⟨g, o, none⟩) F ∧ AS LTp w4 nl L) := ⟨M4, H3.out.kp k4, al⟩
        have c1 := kp_known k4 c0
        have lk : (k : Int) ≤ 60 := by omega
        rw [← hk] at hs ⊢
        clear cL M4 k4 al hk hlen c0 H3 c1
        go_wp2_with fail
        go_loopg [14] (k + 1) (fun gk v14 wr => ∃ (j : Nat), v14 = .int .i64 (j : Int) ∧ j ≤ k ∧ k + 1 - j ≤ gk ∧ Hid (PMv w wr p b T ∧ AS LTi wr (some ⟨g, o, none⟩) F ∧ AS LTp wr nl L))
        case atStart => exact ⟨0, rfl, by omega, by omega, I4⟩
        case round =>
          clear I4
          obtain ⟨j, rfl, hj, hgj, HI⟩ := hrel
          by_cases hlt : j < k
          · have z2 : (j : Int) < k := by omega
            obtain ⟨x, hx⟩ : ∃ x, L[j]? = some x := ⟨_, List.getElem?_eq_getElem (by have := HK.out; omega)⟩
            obtain ⟨g2, o2, rfl, hc⟩ := AS.elem okT_place HI.out.2.2 hx
            obtain ⟨g3, o3, eg, hc3⟩ := AS.elem okT_num HI.out.2.1 HF.out
            cases eg
            have c0 : wr.cell? ⟨g, o + i, none⟩ = some (.int .i64 f) := by have := hc3 0 _ rfl; rwa [show LTi.sz = 1 from rfl, Nat.mul_one, Nat.add_zero] at this
            have kb : Nonempty (KeptBy wr) := KeptBy.some
            have x0 : ∀ P : KeptBy wr, P.v.cell? ⟨g2, o2 + j * 2, none⟩ = some (.int .i64 x.1) := fun P => kp_known P.k (hc 0 _ rfl)
            have x1 : ∀ P : KeptBy wr, P.v.cell? ⟨g2, o2 + j * 2 + 1, none⟩ = some (.int .u64 x.2) := fun P => kp_known P.k (hc 1 _ rfl)
            have x2 : ∀ P : KeptBy wr, P.v.cell? ⟨g, o + i, none⟩ = some (.int .i64 f) := fun P => kp_known P.k c0
            have x3 : ∀ P : KeptBy wr, (Instr.lookup 47 (.map (some b)) (.agg #[.int .i64 x.1, .int .u64 x.2]) false).run Try.prog P.v = .ok (.int .i64 f) P.v := fun P => (HI.out.1.kp P.k).mt.get (HL.out x (List.mem_of_getElem? hx))
            have HQ : Hid (∀ v, Kp wr v → PMv w v p b T ∧ AS LTi v (some ⟨g, o, none⟩) F ∧ AS LTp v (some ⟨g2, o2, none⟩) L) := fun v k => ⟨HI.out.1.kp k, HI.out.2.1.kp k, HI.out.2.2.kp k⟩
            clear hc hc3 c0 hx HI
            obtain ⟨xa, xb⟩ := x
            go_wp2_with fail
            refine wp_region_kept mixed (by kernel_rfl) ?_
            repeat (go_big_quiet_step (exact rfl))
            refine wpQuiet_nil ?_
            intro _ hw'
            obtain ⟨⟨wq, kq⟩, hw''⟩ := hw'
            subst hw''
            have HR : Hid (PMv w _ p b T ∧ AS LTi _ (some ⟨g, o, none⟩) F ∧ AS LTp _ (some ⟨g2, o2, none⟩) L) := HQ.out _ kq
            clear kq x0 x1 x2 x3 HQ kb
            go_wp2_with fail
            go_roundg (k + 1 - (j + 1))
            case measure => omega
            case rel => exact ⟨j + 1, by go_num, by omega, by omega, HR⟩
          · have ej : k = j := by omega
            subst ej
            have HR : Hid (PMv w wr p b T ∧ AS LTi wr (some ⟨g, o, none⟩) F) := ⟨HI.out.1, HI.out.2.1⟩
            clear HI hlt
            go_wp2_with fail
            go_roundg (m + 1 - (i + 1))
            case measure => omega
            case rel => exact ⟨i + 1, by rw [← H2.out], by go_num, by omega, by omega, HR⟩
      · have ei : m = i := by omega
        subst ei
        obtain ⟨s1, hs1⟩ : ∃ s1 : Nat, s1 = T.length := ⟨_, rfl⟩
        rw [HM.out, HS.out.2.2.1, ← hs1]
        have M := HI.out.1
        have hl : T.length ≤ 60 := HS.out.2.2.2.1
        have u9 : srtP (usT T 9) = [] := List.length_eq_zero_iff.1 (by rw [srtP_len, HS.out.2.2.2.2]; rfl)
        clear HI hlt HS HM
        go_wp2_with fail
        with_reducible refine (cT.out _).mono ?_
        rintro e w4 ⟨rfl, k4⟩
        have M4 := M.kp k4
        have hn := M4.mt.len
        rw [← hs1] at hn
        have cL := M4.list 9 (by decide) (by omega)
        rw [u9] at cL
        clear M k4 M4
        go_wp2_with fail
        with_reducible refine cL.mono ?_
        rintro e w5 ⟨⟨vl, rfl, sl⟩, M5, _⟩
        have cS := sameX_any (L := []) (show SVw LTp w5 (.slice none 0 0) [] from ⟨none, 0, rfl, .inl ⟨rfl, rfl⟩⟩) sl (by simp)
        rw [decide_eq_true rfl] at cS
        have HE : Hid (Kp w w5) := M5.k
        clear cL sl M5
        go_wp2_with fail
        with_reducible refine cS.mono ?_
        rintro e w6 ⟨rfl, k6⟩
        have HE6 : Hid (Kp w w6) := HE.out.trans k6
        clear cS k6
        go_wp2
        go_ret
        exact ⟨rfl, HE6.out⟩

end Go.Proofs.Ytfpmakmemmnbkaa
