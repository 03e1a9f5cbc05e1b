/- demesnelaw17: RmapOnce. -/
import Derived.Test.YtfpmakmemmnbkaaAQ
import Derived.Test.YtfpmakmemmnbkaaKB
import Derived.Deep.RegionHeld3
import Derived.Deep.CutBlock
import Derived.Deep.DeepCutAuto
namespace Go.Proofs.Ytfpmakmemmnbkaa
open Go.RowKit
set_option maxRecDepth 10000

/-- Both maps while uses are added: the first i of them, the last i of them. -/
def OA (W w : World) (p q : Nat) (V : Nat → Int × UC) (n i : Nat) (T1 T2 : List UC) : Prop := PBo W w p q T1 T2 ∧ Has4 V 0 i T1 ∧ Has4 V (n - i) n T2 ∧ T1.length ≤ i ∧ T2.length ≤ i
/-- Both maps, alike. -/
def OBo (W w : World) (p q : Nat) (T1 T2 : List UC) : Prop := PBo W w p q T1 T2 ∧ AlkT T1 T2 ∧ T1.length ≤ 60
theorem OBo.len2 {W w : World} {p q : Nat} {T1 T2 : List UC} (h : OBo W w p q T1 T2) : T2.length ≤ 60 := by rw [← h.2.1.length_eq]; exact h.2.2
set_option maxHeartbeats 16000000 in
theorem once17_any (na : Option Addr) (mc cap : Nat) (V : Nat → Int × UC) (a1 : Int) (w : World) (hO : Steps w na mc V) (hm : mc ≤ maxLen) :
    Calls Try.prog 4 #[.slice na mc cap, .int .i64 a1] w fun e w' => e = .returned (.bool true) ∧ Kp w w' := by
  have cN := rnew_any
  have cT : Aside (∀ w, Calls Try.prog 19 #[] w fun e w' => e = .returned (.bool true) ∧ Kp w w') := fun w => mtold_any w
  have HO : Hid (Steps w na mc V) := hO
  obtain ⟨n, hmn, n1, n2⟩ : ∃ n : Nat, min (mc : Int) 60 = (n : Int) ∧ n ≤ mc ∧ n ≤ 60 := by
    by_cases e : 60 < mc
    · exact ⟨60, by omega, by omega, by omega⟩
    · exact ⟨mc, by omega, by omega, by omega⟩
  have HN : Hid (n ≤ mc ∧ n ≤ 60) := ⟨n1, n2⟩
  have z1 : (n : Int) ≤ mc := by omega
  have z2 : (n : Int) ≤ 60 := by omega
  have y0 : (mc : Int) ≤ 9223372036854775807 := by unfold maxLen at hm; omega
  clear hO hm n1 n2
  go_enter Try.func4, Try.ntmps4
  go_wp2_with fail
  with_reducible refine (cN w).mono ?_
  rintro e w1 ⟨p, U, bm, g, K, rfl, m1, k1, u1⟩
  go_wp2_with fail
  with_reducible refine (cN w1).mono ?_
  rintro e w2 ⟨q, U', bm', g', K', rfl, m2, k2, u2⟩
  have I0 : Hid (OA w w2 p q V n 0 [] []) := ⟨PBo.made (Kp.refl w) ⟨U, bm, g, K, m1, k1, u1⟩ ⟨U', bm', g', K', m2, k2, u2⟩, Has4.nil V 0, Has4.nil V n, Nat.le_refl 0, Nat.le_refl 0⟩
  clear m1 k1 u1 m2 k2 u2 cN
  go_wp2_with fail
  go_loopg [8] (n + 1) (fun gk v8 wr => ∃ (i : Nat) (T1 T2 : List UC), v8 = .int .i64 (i : Int) ∧ i ≤ n ∧ n + 1 - i ≤ gk ∧ Hid (OA w wr p q V n i T1 T2))
  case atStart => exact ⟨0, [], [], rfl, by omega, by omega, I0⟩
  case round =>
    clear I0
    obtain ⟨i, T1, T2, rfl, hi, hgk, HI⟩ := hrel
    by_cases hlt : i < n
    · have x1 : (i : Int) < n := by omega
      obtain ⟨j, hj⟩ : ∃ j : Nat, j = n - 1 - i := ⟨_, rfl⟩
      have x2 : (n : Int) - 1 = ((n - 1 : Nat) : Int) := by omega
      have x3 : ((n - 1 : Nat) : Int) - i = (j : Int) := by omega
      have x4 : (i : Int) < mc := by omega
      have x5 : (j : Int) < mc := by omega
      obtain ⟨⟨cb, co, rfl, d1, d2⟩, _, wo⟩ := HO.out i (by have := HN.out; omega)
      obtain ⟨⟨cb', co', ee, _, d4⟩, _, wo'⟩ := HO.out j (by have := HN.out; omega)
      cases ee
      obtain ⟨u, hu⟩ : ∃ u, u = us4 V i := ⟨_, rfl⟩
      obtain ⟨u', hu'⟩ : ∃ u', u' = us4 V j := ⟨_, rfl⟩
      have WU : Hid (okU u ∧ okU u') := ⟨by rw [hu]; exact us4_ok wo, by rw [hu']; exact us4_ok wo'⟩
      obtain ⟨f, r1, b1, b2⟩ : ∃ f : Int, bits .and .i64 (V i).2.1 3 = f ∧ f = u.1 ∧ u.2 = ((V i).2.2.1, (V i).2.2.2) := ⟨_, mask2 _, by rw [hu]; rfl, by rw [hu]; rfl⟩
      obtain ⟨f', r2, b3, b4⟩ : ∃ f : Int, bits .and .i64 (V j).2.1 3 = f ∧ f = u'.1 ∧ u'.2 = ((V j).2.2.1, (V j).2.2.2) := ⟨_, mask2 _, by rw [hu']; rfl, by rw [hu']; rfl⟩
      have XC : Hid (∀ v T1 T2, PBo w v p q T1 T2 → v.cell? ⟨cb, co + i * 4 + 1, none⟩ = some (.int .i64 (V i).2.1) ∧ v.cell? ⟨cb, co + i * 4 + 2, none⟩ = some (.int .i64 (V i).2.2.1) ∧ v.cell? ⟨cb, co + i * 4 + 3, none⟩ = some (.int .u64 (V i).2.2.2) ∧ v.cell? ⟨cb, co + j * 4 + 1, none⟩ = some (.int .i64 (V j).2.1) ∧ v.cell? ⟨cb, co + j * 4 + 2, none⟩ = some (.int .i64 (V j).2.2.1) ∧ v.cell? ⟨cb, co + j * 4 + 3, none⟩ = some (.int .u64 (V j).2.2.2)) := fun v T1 T2 h =>
        ⟨(h.k.cell (p := ⟨cb, co + i * 4 + 1, none⟩) d1).trans (d2 1 _ rfl), (h.k.cell (p := ⟨cb, co + i * 4 + 2, none⟩) d1).trans (d2 2 _ rfl), (h.k.cell (p := ⟨cb, co + i * 4 + 3, none⟩) d1).trans (d2 3 _ rfl), (h.k.cell (p := ⟨cb, co + j * 4 + 1, none⟩) d1).trans (d4 1 _ rfl), (h.k.cell (p := ⟨cb, co + j * 4 + 2, none⟩) d1).trans (d4 2 _ rfl), (h.k.cell (p := ⟨cb, co + j * 4 + 3, none⟩) d1).trans (d4 3 _ rfl)⟩
      have cA := (HI.out.1.kp (Kp.refl wr).drew).add1 u WU.out.1 (by have := HI.out.2.2.2.1; have := HN.out; omega)
      have cB : Aside (∀ v, PBo w v p q (addT T1 u) T2 → Calls Try.prog 7 #[.pointer (some ⟨q, 0, none⟩), .int .i64 f', .agg #[.int .i64 (V j).2.2.1, .int .u64 (V j).2.2.2]] v fun e w' => e = .returned (.int .i64 (addN T2 u')) ∧ PBo w w' p q (addT T1 u) (addT T2 u')) := fun v h => by
        have := h.add2 u' WU.out.2 (by have := HI.out.2.2.2.2; have := HN.out; omega)
        rw [b4, ← b3] at this
        exact this
      have HZ : Hid (∀ v, PBo w v p q (addT T1 u) (addT T2 u') → OA w v p q V n (i + 1) (addT T1 u) (addT T2 u')) := fun v h => by
        have hh := HI.out
        refine ⟨h, by rw [hu]; exact hh.2.1.up (Nat.zero_le i), ?_, by have := addT_len T1 u; have := hh.2.2.2.1; omega, by have := addT_len T2 u'; have := hh.2.2.2.2; omega⟩
        have h3 := hh.2.2.1
        rw [hu', show n - (i + 1) = j by omega]
        rw [show n - i = j + 1 by omega] at h3
        exact h3.down (by omega)
      have C0 := XC.out _ _ _ HI.out.1
      rw [b2, ← b1] at cA
      unfold plV at cA
      dsimp only at cA
      clear b1 b2 b3 b4 hu hu' wo wo' d2 d4 hj
      generalize (V i).2.1 = vf at *
      generalize (V i).2.2.1 = vg at *
      generalize (V i).2.2.2 = vp at *
      generalize (V j).2.1 = wf at *
      generalize (V j).2.2.1 = wg at *
      generalize (V j).2.2.2 = wp at *
      generalize addT T1 u = T1' at *
      generalize addT T2 u' = T2' at *
      generalize addN T1 u = s1 at *
      generalize addN T2 u' = s2 at *
      obtain ⟨c1, c2, c3, _, _, _⟩ := C0
      generalize n - 1 = nm at x2 x3
      go_wp2_with fail
      go_region_held3 (fun v => v.cell? ⟨cb, co + i * 4 + 1, none⟩ = some (.int .i64 vf) ∧ v.cell? ⟨cb, co + i * 4 + 2, none⟩ = some (.int .i64 vg) ∧ v.cell? ⟨cb, co + i * 4 + 3, none⟩ = some (.int .u64 vp))
        (first | go_keep | exact ⟨(XC.out _ _ _ X3).1, (XC.out _ _ _ X3).2.1, (XC.out _ _ _ X3).2.2.1⟩)
        (first | (go_at_call 7; with_reducible refine cA.mono ?_; rintro e w3 ⟨rfl, X3⟩))
      have C3 := (XC.out _ _ _ X3).2.2.2
      obtain ⟨c4, c5, c6⟩ := C3
      have X3d := X3.kp (Kp.refl w3).drew
      have cB3 := cB.out _ X3d
      clear cA cB X3 c1 c2 c3
      go_wp2_with fail
      go_region_held3 (fun v => v.cell? ⟨cb, co + j * 4 + 1, none⟩ = some (.int .i64 wf) ∧ v.cell? ⟨cb, co + j * 4 + 2, none⟩ = some (.int .i64 wg) ∧ v.cell? ⟨cb, co + j * 4 + 3, none⟩ = some (.int .u64 wp))
        (first | exact (XC.out _ _ _ X3d).2.2.2 | exact (XC.out _ _ _ X4).2.2.2)
        (first | (go_at_call 7; with_reducible refine cB3.mono ?_; rintro e w4 ⟨rfl, X4⟩))
      have HY := HZ.out _ X4
      have HK : Hid (OA w w4 p q V n (i + 1) T1' T2') := HY
      clear cB3 X4 X3d c4 c5 c6 HY HZ
      go_wp2_with fail
      go_roundg (n + 1 - (i + 1))
      case measure => omega
      case rel => exact ⟨i + 1, T1', T2', by go_num, by omega, by omega, HK⟩
    · have ei : n = i := by omega
      subst ei
      clear hlt
      have HB : Hid (OBo w wr p q T1 T2) := ⟨HI.out.1, HI.out.2.1.alk (by have := HI.out.2.2.1; rwa [Nat.sub_self] at this) HI.out.1.nd1 HI.out.1.swap.nd1, by have := HI.out.2.2.2.1; have := HN.out; omega⟩
      clear HI
      go_wp2_with fail
      go_loopg [10] (n + 1) (fun gk v10 wr => ∃ (i : Nat) (T1 T2 : List UC), v10 = .int .i64 (i : Int) ∧ i ≤ n ∧ n + 1 - i ≤ gk ∧ Hid (OBo w wr p q T1 T2))
      case atStart => exact ⟨0, T1, T2, rfl, by omega, by omega, HB⟩
      case round =>
        clear HB
        obtain ⟨i, T1, T2, rfl, hi, hgk, HI⟩ := hrel
        by_cases hlt : i < n
        · have x1 : (i : Int) < n := by omega
          obtain ⟨t, m, k1, k2, k3, k4, k5⟩ := place_of a1 n (by omega)
          obtain ⟨s, hs⟩ : ∃ s : Nat, (i : Int) + m = (s : Int) := ⟨i + m, by omega⟩
          obtain ⟨k, hk, hkn⟩ : ∃ k : Nat, (s : Int).tmod n = (k : Int) ∧ k < n := ⟨s % n, by rw [Int.tmod_eq_emod_of_nonneg (by omega), Int.natCast_emod], Nat.mod_lt _ (by omega)⟩
          have x2 : (k : Int) < mc := by omega
          have x3 : (s : Int) ≤ 200 := by omega
          have x4 : ¬ (n : Int) = 0 := by omega
          have x5 : ¬ n = 0 := by omega
          obtain ⟨⟨cb, co, rfl, d1, d2⟩, _, wo⟩ := HO.out k (by have := HN.out; omega)
          obtain ⟨u, hu⟩ : ∃ u, u = us4 V k := ⟨_, rfl⟩
          have WU : Hid (okU u) := by rw [hu]; exact us4_ok wo
          obtain ⟨f, r1, b1, b2⟩ : ∃ f : Int, bits .and .i64 (V k).2.1 3 = f ∧ f = u.1 ∧ u.2 = ((V k).2.2.1, (V k).2.2.2) := ⟨_, mask2 _, by rw [hu]; rfl, by rw [hu]; rfl⟩
          have hq : bits .and .i64 (V k).1 1 = 0 ∨ bits .and .i64 (V k).1 1 = 1 := by
            rw [i64_mask 1 1 _ (by decide) (by decide)]
            omega
          have c0 : wr.cell? ⟨cb, co + k * 4, none⟩ = some (.int .i64 (V k).1) := (HI.out.1.k.cell (p := ⟨cb, co + k * 4, none⟩) d1).trans (d2 0 _ rfl)
          have XC : Hid (∀ v T1 T2, PBo w v p q T1 T2 → v.cell? ⟨cb, co + k * 4 + 1, none⟩ = some (.int .i64 (V k).2.1) ∧ v.cell? ⟨cb, co + k * 4 + 2, none⟩ = some (.int .i64 (V k).2.2.1) ∧ v.cell? ⟨cb, co + k * 4 + 3, none⟩ = some (.int .u64 (V k).2.2.2)) := fun v T1 T2 h =>
            ⟨(h.k.cell (p := ⟨cb, co + k * 4 + 1, none⟩) d1).trans (d2 1 _ rfl), (h.k.cell (p := ⟨cb, co + k * 4 + 2, none⟩) d1).trans (d2 2 _ rfl), (h.k.cell (p := ⟨cb, co + k * 4 + 3, none⟩) d1).trans (d2 3 _ rfl)⟩
          have X2 := HI.out.1.kp (Kp.refl wr).drew
          have cA := X2.drop1 u WU.out (by have := HI.out.2.2; omega)
          have cB : Aside (∀ v, PBo w v p q (T1.erase u) T2 → Calls Try.prog 9 #[.pointer (some ⟨q, 0, none⟩), .int .i64 f, .agg #[.int .i64 (V k).2.2.1, .int .u64 (V k).2.2.2]] v fun e w' => e = .returned (.int .i64 (drpN T1 u)) ∧ PBo w w' p q (T1.erase u) (T2.erase u)) := fun v h => by
            have := h.drop2 u WU.out (by have := HI.out.len2; omega)
            rw [b2, ← b1, ← HI.out.2.1.drpN u] at this
            exact this
          have HZ : Hid (∀ v, PBo w v p q (T1.erase u) (T2.erase u) → OBo w v p q (T1.erase u) (T2.erase u)) := fun v h => ⟨h, HI.out.2.1.erase u, Nat.le_trans (erase_len T1 u) HI.out.2.2⟩
          have C0 := XC.out _ _ _ HI.out.1
          rw [b2, ← b1] at cA
          unfold plV at cA
          dsimp only at cA
          clear b1 b2 hu wo d2
          generalize (V k).1 = vk at *
          generalize (V k).2.1 = vf at *
          generalize (V k).2.2.1 = vg at *
          generalize (V k).2.2.2 = vp at *
          generalize T1.erase u = T1' at *
          generalize T2.erase u = T2' at *
          generalize drpN T1 u = s1 at *
          obtain ⟨c1, c2, c3⟩ := C0
          rcases hq with hq | hq
          · clear cA cB HZ X2 r1
            go_wp2_with fail
            go_roundg (n + 1 - (i + 1))
            case measure => omega
            case rel => exact ⟨i + 1, T1, T2, by go_num, by omega, by omega, HI⟩
          · go_wp2_with fail
            go_region_held3 (fun v => v.cell? ⟨cb, co + k * 4 + 1, none⟩ = some (.int .i64 vf) ∧ v.cell? ⟨cb, co + k * 4 + 2, none⟩ = some (.int .i64 vg) ∧ v.cell? ⟨cb, co + k * 4 + 3, none⟩ = some (.int .u64 vp))
              (first | exact XC.out _ _ _ X2 | exact XC.out _ _ _ X4 | exact XC.out _ _ _ X3)
              (first | (go_at_call 9; first | (with_reducible refine cA.mono ?_; rintro e w3 ⟨rfl, X3⟩) | (with_reducible refine (cB.out _ X3).mono ?_; rintro e w4 ⟨rfl, X4⟩)))
            have HK : Hid (OBo w w4 p q T1' T2') := HZ.out _ X4
            clear X2 X3 X4 HZ cA cB c0 c1 c2 c3 XC
            go_wp2_with fail
            go_roundg (n + 1 - (i + 1))
            case measure => omega
            case rel => exact ⟨i + 1, T1', T2', by go_num, by omega, by omega, HK⟩
        · have ei : n = i := by omega
          subst ei
          clear hlt
          go_wp2_with fail
          go_loopg [12] 5 (fun gk v12 wr => ∃ (f : Nat), v12 = .int .i64 (f : Int) ∧ f ≤ 4 ∧ 5 - f ≤ gk ∧ Hid (OBo w wr p q T1 T2))
          case atStart => exact ⟨0, rfl, by omega, by omega, HI⟩
          case round =>
            clear HI
            obtain ⟨f, rfl, hf, hgk, HI⟩ := hrel
            by_cases hlt : f < 4
            · have x1 : (f : Int) < 4 := by omega
              have wf : (Lit.int .i64 (f : Int)).wf = true := WalkArith.wf_i64 (by omega)
              obtain ⟨L, hL⟩ : ∃ L, srtP (usT T1 (f : Int)) = L := ⟨_, rfl⟩
              have hlen : L.length ≤ 60 := by rw [← hL, srtP_len]; have := usT_len T1 (f : Int); have := HI.out.2.2; omega
              have HT : Hid ((∀ x ∈ L, ((f : Int), x) ∈ T1) ∧ ∀ i x y, L[i]? = some x → L[i + 1]? = some y → x.1 < y.1 ∨ (x.1 = y.1 ∧ x.2 < y.2)) := told_order HI.out.1.nd1 (f : Int) hL
              have cA := HI.out.1.list1 (f : Int) wf (by have := HI.out.2.2; omega)
              have cB : Aside (∀ v, PBo w v p q T1 T2 → Calls Try.prog 11 #[.pointer (some ⟨q, 0, none⟩), .int .i64 (f : Int)] v fun e w' => (∃ x, e = .returned x ∧ SVw LTp w' x L) ∧ PBo w w' p q T1 T2 ∧ Kp v w') := fun v h => by
                have := h.list2 (f : Int) wf (by have := HI.out.len2; omega)
                rw [← HI.out.2.1.list (f : Int), hL] at this
                exact this
              have HB : Hid (AlkT T1 T2 ∧ T1.length ≤ 60 ∧ L.length ≤ 60) := ⟨HI.out.2.1, HI.out.2.2, hlen⟩
              rw [hL] at cA
              clear hL wf HI hlen
              go_wp2_with fail
              with_reducible refine cA.mono ?_
              rintro e w3 ⟨⟨va, rfl, sa⟩, X3, _⟩
              have cB3 := cB.out _ X3
              have S3 : Hid (SVw LTp w3 va L) := sa
              clear cA X3 cB sa
              go_wp2_with fail
              with_reducible refine cB3.mono ?_
              rintro e w4 ⟨⟨vb, rfl, sb⟩, X4, k4⟩
              have S4 : Hid (SVw LTp w4 va L ∧ PBo w w4 p q T1 T2) := ⟨S3.out.kp k4, X4⟩
              have cS := sameX_any S4.out.1 sb (by have := HB.out.2.2; omega)
              rw [decide_eq_true rfl] at cS
              clear cB3 S3 sb X4 k4
              go_wp2_with fail
              with_reducible refine cS.mono ?_
              rintro e w5 ⟨rfl, k5⟩
              obtain ⟨nl, cl, ev, al⟩ := S4.out.1
              subst ev
              obtain ⟨m, hm⟩ : ∃ m, m = L.length := ⟨_, rfl⟩
              have S5 : Hid (PBo w w5 p q T1 T2 ∧ AS LTp w5 nl L) := ⟨S4.out.2.kp k5, al.kp k5⟩
              have HM : Hid (m = L.length) := hm
              have lm : (m : Int) ≤ 60 := by have := HB.out.2.2; omega
              rw [← hm]
              clear cS S4 k5 al hm
              go_wp2_with fail
              go_loopg [14] (m + 1) (fun gk v14 wr => ∃ (i : Nat), v14 = .int .i64 (i : Int) ∧ i ≤ m ∧ m + 1 - i ≤ gk ∧ Hid (PBo w wr p q T1 T2 ∧ AS LTp wr nl L))
              case atStart => exact ⟨0, rfl, by omega, by omega, S5⟩
              case round =>
                clear S5
                obtain ⟨i, rfl, hi, hgi, HI⟩ := hrel
                by_cases hlt : i < m
                · have z1 : (i : Int) < m := by omega
                  obtain ⟨x, hx⟩ : ∃ x, L[i]? = some x := ⟨_, List.getElem?_eq_getElem (by have := HM.out; omega)⟩
                  obtain ⟨g, o, rfl, hc⟩ := AS.elem okT_place HI.out.2 hx
                  have HX : Hid (((f : Int), x) ∈ T1) := HT.out.1 x (List.mem_of_getElem? hx)
                  have kb : Nonempty (KeptBy wr) := KeptBy.some
                  have x0 : ∀ P : KeptBy wr, P.v.cell? ⟨g, o + i * 2, none⟩ = some (.int .i64 x.1) := fun P => kp_known P.k (hc 0 _ rfl)
                  have x1 : ∀ P : KeptBy wr, P.v.cell? ⟨g, o + i * 2 + 1, none⟩ = some (.int .u64 x.2) := fun P => kp_known P.k (hc 1 _ rfl)
                  have sH : Aside (∀ P : KeptBy wr, Calls Try.prog 13 #[.pointer (some ⟨p, 0, none⟩), .int .i64 (f : Int), .agg #[.int .i64 x.1, .int .u64 x.2]] P.v fun e w' => e = .returned (.bool true) ∧ Kp P.v w') := fun P => by
                    have := (HI.out.1.kp P.k).has1 ((f : Int), x) (HI.out.1.ok1 _ HX.out)
                    rw [decide_eq_true HX.out] at this
                    exact this.mono fun _ _ ⟨h1, _, h3⟩ => ⟨h1, h3⟩
                  have HQ : Hid (∀ v, Kp wr v → PBo w v p q T1 T2 ∧ AS LTp v (some ⟨g, o, none⟩) L) := fun v k => ⟨HI.out.1.kp k, HI.out.2.kp k⟩
                  by_cases i0 : i = 0
                  · subst i0
                    clear hc HI HX hx HT
                    rw [show ((0 : Nat) : Int) = 0 from rfl]
                    obtain ⟨xa, xb⟩ := x
                    simp only [Nat.zero_mul, Nat.add_zero] at x0 x1
                    go_wp2_with fail
                    refine wp_region_kept mixed (by kernel_rfl) ?_
                    repeat (go_big_quiet_step (first | exact rfl | (go_at_call 13; with_reducible refine Calls.kept_of (sH.out _))))
                    refine wpQuiet_nil ?_
                    intro _ hw'
                    obtain ⟨⟨wq, kq⟩, hw''⟩ := hw'
                    subst hw''
                    have HK := HQ.out _ kq
                    have HK1 : Hid (PBo w _ p q T1 T2 ∧ AS LTp _ (some ⟨g, o, none⟩) L) := HK
                    clear HK kq x0 x1 sH HQ kb
                    go_wp2_with fail
                    go_roundg (m + 1 - (0 + 1))
                    case measure => omega
                    case rel => exact ⟨1, by go_num, by omega, by omega, HK1⟩
                  · obtain ⟨j, hj⟩ : ∃ j, i = j + 1 := ⟨i - 1, by omega⟩
                    have zj : (i : Int) - 1 = (j : Int) := by omega
                    have zk : (j : Int) < m := by omega
                    have d1 : decide ((0 : Int) < (i : Int)) = true := decide_eq_true (by omega)
                    have d2 : decide (0 < i) = true := decide_eq_true (by omega)
                    obtain ⟨y, hy⟩ : ∃ y, L[j]? = some y := ⟨_, List.getElem?_eq_getElem (by have := HM.out; omega)⟩
                    have ho := HT.out.2 j y x hy (by rw [← hj]; exact hx)
                    obtain ⟨g', o', eg, hc'⟩ := AS.elem okT_place HI.out.2 hy
                    cases eg
                    have y0 : ∀ P : KeptBy wr, P.v.cell? ⟨g, o + j * 2, none⟩ = some (.int .i64 y.1) := fun P => kp_known P.k (hc' 0 _ rfl)
                    have y1 : ∀ P : KeptBy wr, P.v.cell? ⟨g, o + j * 2 + 1, none⟩ = some (.int .u64 y.2) := fun P => kp_known P.k (hc' 1 _ rfl)
                    clear hc hc' HI HX hx hy hj HT
                    obtain ⟨xa, xb⟩ := x
                    obtain ⟨ya, yb⟩ := y
                    dsimp only at x0 x1 y0 y1 ho sH
                    have e1 : decide (xa < ya) = false := decide_eq_false (by omega)
                    by_cases eq : ya = xa
                    · subst eq
                      have e2 : decide (xb ≤ yb) = false := decide_eq_false (by omega)
                      have HH : Hid (i ≤ m ∧ i < m ∧ m + 1 - i ≤ gk) := ⟨hi, hlt, hgi⟩
                      clear ho i0 hi hlt hgi
                      go_wp2_with fail
                      refine wp_region_kept mixed (by kernel_rfl) ?_
                      repeat (go_big_quiet_step (first | exact rfl | (go_at_call 13; with_reducible refine Calls.kept_of (sH.out _))))
                      refine wpQuiet_nil ?_
                      intro _ hw'
                      obtain ⟨⟨wq, kq⟩, hw''⟩ := hw'
                      subst hw''
                      have HK := HQ.out _ kq
                      have HK1 : Hid (PBo w _ p q T1 T2 ∧ AS LTp _ (some ⟨g, o, none⟩) L) := HK
                      clear HK kq x0 x1 y0 y1 sH HQ kb d1 d2 e1 e2
                      go_wp2_with fail
                      go_roundg (m + 1 - (i + 1))
                      case measure => have := HH.out; omega
                      case rel => exact ⟨i + 1, by go_num, by have := HH.out; omega, by omega, HK1⟩
                    · have e2 : (ya == xa) = false := beq_false_of_ne eq
                      have HH : Hid (i ≤ m ∧ i < m ∧ m + 1 - i ≤ gk) := ⟨hi, hlt, hgi⟩
                      clear ho i0 hi hlt hgi eq
                      go_wp2_with fail
                      refine wp_region_kept mixed (by kernel_rfl) ?_
                      repeat (go_big_quiet_step (first | exact rfl | (go_at_call 13; with_reducible refine Calls.kept_of (sH.out _))))
                      refine wpQuiet_nil ?_
                      intro _ hw'
                      obtain ⟨⟨wq, kq⟩, hw''⟩ := hw'
                      subst hw''
                      have HK := HQ.out _ kq
                      have HK1 : Hid (PBo w _ p q T1 T2 ∧ AS LTp _ (some ⟨g, o, none⟩) L) := HK
                      clear HK kq x0 x1 y0 y1 sH HQ kb d1 d2 e1 e2
                      go_wp2_with fail
                      go_roundg (m + 1 - (i + 1))
                      case measure => have := HH.out; omega
                      case rel => exact ⟨i + 1, by go_num, by have := HH.out; omega, by omega, HK1⟩
                · have ei : m = i := by omega
                  subst ei
                  have HK : Hid (OBo w wr p q T1 T2) := ⟨HI.out.1, HB.out.1, HB.out.2.1⟩
                  clear HI HT HB HM hlt
                  go_wp2_with fail
                  go_roundg (5 - (f + 1))
                  case measure => omega
                  case rel => exact ⟨f + 1, by go_num, by omega, by omega, HK⟩
            · have ef : f = 4 := by omega
              subst ef
              have cF : Aside (∀ v, PBo w v p q T1 T2 → Calls Try.prog 12 #[.pointer (some ⟨q, 0, none⟩)] v fun e w' => (∃ x, e = .returned x ∧ SVw LTi w' x (frT T1)) ∧ PBo w w' p q T1 T2 ∧ Kp v w') := fun v h => by
                have := h.frames2 (by have := HI.out.len2; omega)
                rwa [← HI.out.2.1.frames] at this
              have hl : T1.length ≤ 60 := HI.out.2.2
              have X0 := HI.out.1
              clear HI hlt
              rw [show ((4 : Nat) : Int) = 4 from rfl]
              go_wp2_with fail
              with_reducible refine (cT.out _).mono ?_
              rintro e w3 ⟨rfl, k3⟩
              have X3 := X0.kp k3
              have cA := X3.frames1 (by omega)
              clear X0 k3 X3
              go_wp2_with fail
              with_reducible refine cA.mono ?_
              rintro e w4 ⟨⟨va, rfl, sa⟩, X4, _⟩
              have cB := cF.out _ X4
              have S4 : Hid (SVw LTi w4 va (frT T1)) := sa
              clear cA X4 sa cF
              go_wp2_with fail
              with_reducible refine cB.mono ?_
              rintro e w5 ⟨⟨vb, rfl, sb⟩, X5, k5⟩
              have cS := intsX_any (S4.out.kp k5) sb (by have := frL_len T1; omega)
              rw [decide_eq_true rfl] at cS
              have HK : Hid (Kp w w5) := X5.k
              clear cB S4 sb X5 k5
              go_wp2_with fail
              with_reducible refine cS.mono ?_
              rintro e w6 ⟨rfl, k6⟩
              have HK6 : Hid (Kp w w6) := HK.out.trans k6
              clear cS k6
              go_wp2
              go_ret
              exact ⟨rfl, HK6.out⟩

end Go.Proofs.Ytfpmakmemmnbkaa
