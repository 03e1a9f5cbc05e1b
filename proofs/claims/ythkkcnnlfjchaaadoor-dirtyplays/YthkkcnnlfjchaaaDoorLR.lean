/- DirtyPlays. -/
import Derived.Test.YthkkcnnlfjchaaaDoorLP
namespace Go.Proofs.YthkkcnnlfjchaaaDoor
open Go.RowKit Go.Maps
set_option maxRecDepth 10000

set_option maxHeartbeats 32000000 in
theorem plays19_any (na : Option Addr) (mc cap : Nat) (V : Nat → Int × Nat) (w : World) (hO : Steps w na mc V) (hm : mc ≤ maxLen) (T : TAB w) :
    Calls Tryd.prog 3 #[.slice na mc cap] w fun e w' => e = .returned (.bool true) ∧ Kp w w' := by
  have cn := LGo.new w
  have HO : Hid (Steps w na mc V) := hO
  have HT := hid_as T
  have y0 : (mc : Int) ≤ 9223372036854775807 := by unfold maxLen at hm; omega
  clear hO hm T
  go_enter Tryd.func3, Tryd.ntmps3
  go_wp2_with fail
  with_reducible refine cn.mono ?_
  rintro e w1 ⟨p, rfl, h1⟩
  clear cn
  have I0 := hid_as (TwL.start h1)
  have HK1 := hid_as h1.k
  clear h1
  go_upto_block 0 with fail
  generalize w1.alloc (.cells #[.bool false, .slice none 0 0] 28) = w2 at *
  obtain ⟨r, hr⟩ : ∃ r, r = w1.heap.size := ⟨_, rfl⟩
  rw [← hr] at I0 ⊢
  clear hr
  go_cut [] (fun wx => Hid (Kp w wx))
  case first =>
    go_wp2_with fail
    go_loopg [5] 101 (fun gk v5 wr => ∃ i : Nat, v5 = .int .i64 (i : Int) ∧ i ≤ 100 ∧ 101 - i ≤ gk ∧ Hid (TwL w wr p r i))
    case atStart => exact ⟨0, rfl, by omega, by omega, I0⟩
    case round =>
      clear I0
      obtain ⟨i, rfl, hi, hgk, HI⟩ := hrel
      by_cases hlt : i < mc ∧ i < 100
      · have y1 : (i : Int) < mc := by omega
        have y2 : (i : Int) < 100 := by omega
        obtain ⟨⟨cb, co, rfl, d1, c0, c1⟩, _, wx⟩ := HO.out i hlt.1
        obtain ⟨on, W, L, TS, hq⟩ := HI.out
        obtain ⟨kd, hkd⟩ : ∃ kd, kd = (V i).1 := ⟨_, rfl⟩
        obtain ⟨x, hx⟩ : ∃ x, x = (V i).2 := ⟨_, rfl⟩
        rw [← hkd] at c0
        rw [← hx] at c1 wx
        have o0 := (TS.k.cell (p := ⟨cb, co + i * 2, none⟩) d1).trans c0
        have o1 := (TS.k.cell (p := ⟨cb, co + i * 2 + 1, none⟩) d1).trans c1
        have WX := hid_as wx
        have T3 := TwL.box TS kd x
        have HQ := hid_as hq
        clear d1 c0 c1 wx hkd hx TS hq HI
        go_upto_region 8 with fail
        generalize wr.alloc (.cells #[.int .i64 kd, .int .u64 (x : Int)] 31) = w3 at *
        generalize wr.heap.size = bo at *
        clear o0 o1
        have e0 := T3.e0
        have e1 := T3.e1
        have HX := hid_as T3
        clear T3
        obtain ⟨t, m, k1, k2, k3, k4, k5⟩ := place8 kd 8 (by omega)
        rw [show ((8 : Nat) : Int) = 8 from rfl] at k1 k2 k3 k4
        go_upto_block 2 with fail
        go_cut [7, 8, 9, 10] (fun v7 v8 v9 v10 wx => ∃ (z : Int) (a : Bool), v7 = .int .i64 z ∧ v8 = .int .i64 z ∧ v9 = .bool a ∧ v10 = .bool a ∧ Hid (TwB w wx p r bo kd x (i + 1)))
        case first =>
          have XC : Hid (∀ v on2 W2 on3 L2 o2, TwM w v p r bo kd x on2 W2 on3 L2 o2 → v.cell? ⟨bo, 1, none⟩ = some (.int .u64 (x : Int))) := fun v _ _ _ _ _ h => h.e1
          clear k1 k2 k3 k4
          have HI2 : Hid (i < 100) := hlt.2
          by_cases f4 : m = 4
          · have g4 : ((m : Int) == 4) = true := by simp; omega
            have cA := (HX.out.kp (Kp.refl w3).drew).pforget WX.out (by have := HI2.out; omega)
            have cU : Aside (∀ v, TwM w v p r bo kd x on (delB W x) on L (2 * i + 1) → Calls Tryd.prog 8 #[.pointer (some ⟨r, 0, none⟩), .int .u64 (x : Int)] v fun e w' => e = .returned (.bool (decide (x ∈ L))) ∧ ∃ L', TwM w w' p r bo kd x on (delB W x) on L' (2 * i + 1 + 1) ∧ ∀ q, q ∈ L' ↔ q ∈ L ∧ q ≠ x) := fun v h => h.rforget (by have := HI2.out; omega)
            rw [HQ.out x] at cA
            generalize decide (x ∈ L) = a at *
            clear f4 k5 HX
            go_wp2_with fail
            go_region_held3 (fun v => v.cell? ⟨bo, 1, none⟩ = some (.int .u64 (x : Int)))
              (first | go_keep | exact XC.out _ _ _ _ _ _ X5 | exact XC.out _ _ _ _ _ _ X4)
              (first | (go_at_call 7; with_reducible refine cA.mono ?_; rintro e w4 ⟨rfl, X4⟩) | (go_at_call 8; with_reducible refine (cU.out _ X4).mono ?_; rintro e w5 ⟨rfl, L', X5, hL⟩))
            all_goals
              have HY : Hid (TwB w w5 p r bo kd x (i + 1)) := ⟨on, delB W x, L', X5, like_del HQ.out hL⟩
              clear X4 X5 hL cA cU XC e0 e1
              go_wp2_with fail
              go_meet
              case rel => exact ⟨0, a, rfl, rfl, rfl, rfl, HY⟩
          · have g4 : ((m : Int) == 4) = false := by simp; omega
            by_cases f5 : m = 5
            · have g5 : ((m : Int) == 5) = true := by simp; omega
              have cA := HX.out.pcoll HT.out (by have := HI2.out; omega)
              clear f4 f5 k5 e0 e1 XC
              go_wp2_with fail
              with_reducible refine cA.mono ?_
              rintro e w4 ⟨nv, M, cv, rfl, rM, qM, lM, X4⟩
              have cU := X4.rcoll
              have HM := hid_as (show M.Pairwise (· < ·) ∧ (∀ q, q ∈ M ↔ on = true ∧ hasW W q = true) ∧ M.length ≤ 64000 from ⟨rM, qM, lM⟩)
              clear cA rM qM lM X4
              obtain ⟨z, hz⟩ : ∃ z : Int, z = if on then 0 else 20 := ⟨_, rfl⟩
              rw [← hz] at cU ⊢
              clear hz
              go_wp2_with fail
              with_reducible refine cU.mono ?_
              rintro e w5 ⟨nb, N, cb2, rfl, sN, rN, qN, X5⟩
              have hMN : M = N := rise_one HM.out.1 rN (fun q => by rw [HM.out.2.1 q, qN q, HQ.out q]; simp)
              have cS := X5.same (cap' := cb2) rfl sN hMN (by have := HM.out.2.2; omega)
              obtain ⟨n, hn⟩ : ∃ n, n = M.length := ⟨_, rfl⟩
              have bn : (n : Int) ≤ 64000 := by have := HM.out.2.2; omega
              rw [← hn] at cS ⊢
              clear cU sN rN qN X5 hMN hn
              generalize N.length = nN at *
              go_wp2_with fail
              with_reducible refine cS.mono ?_
              rintro e w6 ⟨rfl, X6⟩
              have H6 := hid_as X6
              clear cS X6
              go_wp2_with fail
              go_loopg [15] (n + 1) (fun gg v15 wr => ∃ k : Nat, v15 = .int .i64 (k : Int) ∧ k ≤ n ∧ n + 1 - k ≤ gg ∧ Hid (∃ M', TwC w wr p r bo kd x on (if on then W00 else W) on (if on then [] else L) (2 * i) nv n cv M'))
              case atStart => exact ⟨0, rfl, by omega, by omega, (show ∃ M', _ from ⟨_, H6.out⟩)⟩
              case round =>
                clear H6
                obtain ⟨k, rfl, hk, hg, HJ⟩ := hrel
                by_cases e : k < n
                · have z1 : (k : Int) < n := by omega
                  have z2 : 0 ≤ (k : Int) := by omega
                  obtain ⟨M', X7⟩ := HJ.out
                  obtain ⟨g, u, rfl, hcap, hcell, hfz, hnew⟩ := X7.store e
                  have HN := hid_as hnew
                  clear HJ X7 hnew
                  go_wp2_with fail
                  go_roundg (n + 1 - (k + 1))
                  case measure => omega
                  case rel => exact ⟨k + 1, by go_num, by omega, by omega, HN⟩
                · have z1 : ¬ (k : Int) < n := by omega
                  have HY : Hid (TwB w wr p r bo kd x (i + 1)) := by
                    obtain ⟨M', X7⟩ := HJ.out
                    have X8 := X7.back
                    exact ⟨on, _, _, ⟨X8.1.le (by omega), X8.2⟩, like_off HQ.out⟩
                  clear HJ
                  go_wp2_with fail
                  go_meet
                  case rel => exact ⟨z, false, rfl, rfl, rfl, rfl, HY⟩
            · have g5 : ((m : Int) == 5) = false := by simp; omega
              by_cases f6 : m = 6
              · have g6 : ((m : Int) == 6) = true := by simp; omega
                have cA := HX.out.pstart
                obtain ⟨z, hz⟩ : ∃ z : Int, z = if on then 20 else 0 := ⟨_, rfl⟩
                rw [← hz] at cA
                have HZ := hid_as hz
                clear f4 f5 f6 k5 e0 e1 XC hz HX
                go_wp2_with fail
                with_reducible refine cA.mono ?_
                rintro e w4 ⟨rfl, X4⟩
                have cU := X4.rstart
                rw [← HZ.out] at cU
                clear cA X4
                go_wp2_with fail
                with_reducible refine cU.mono ?_
                rintro e w5 ⟨rfl, X5⟩
                have HY : Hid (TwB w w5 p r bo kd x (i + 1)) := ⟨true, _, _, X5, like_on HQ.out⟩
                clear cU X5
                go_wp2_with fail
                go_meet
                case rel => exact ⟨z, false, rfl, rfl, rfl, rfl, HY⟩
              · have g6 : ((m : Int) == 6) = false := by simp; omega
                by_cases f7 : m = 7
                · have g7 : ((m : Int) == 7) = true := by simp; omega
                  have cA := HX.out.pstop
                  obtain ⟨z, hz⟩ : ∃ z : Int, z = if on then 0 else 20 := ⟨_, rfl⟩
                  rw [← hz] at cA
                  have HZ := hid_as hz
                  clear f4 f5 f6 f7 k5 e0 e1 XC hz HX
                  go_wp2_with fail
                  with_reducible refine cA.mono ?_
                  rintro e w4 ⟨rfl, X4⟩
                  have cU := X4.rstop
                  rw [← HZ.out] at cU
                  clear cA X4
                  go_wp2_with fail
                  with_reducible refine cU.mono ?_
                  rintro e w5 ⟨rfl, X5⟩
                  have HY : Hid (TwB w w5 p r bo kd x (i + 1)) := ⟨false, _, _, X5, like_off HQ.out⟩
                  clear cU X5
                  go_wp2_with fail
                  go_meet
                  case rel => exact ⟨z, false, rfl, rfl, rfl, rfl, HY⟩
                · have g7 : ((m : Int) == 7) = false := by simp; omega
                  have cA := (HX.out.kp (Kp.refl w3).drew).pnote WX.out (by have := HI2.out; omega)
                  have cU : Aside (∀ v, TwM w v p r bo kd x on (if on then addB W x else W) on L (2 * i + 1) → Calls Tryd.prog 17 #[.pointer (some ⟨r, 0, none⟩), .int .u64 (x : Int)] v fun e w' => e = .returned (.bool (on && !decide (x ∈ L))) ∧ ∃ L', TwM w w' p r bo kd x on (if on then addB W x else W) on L' (2 * i + 1 + 1) ∧ ∀ q, q ∈ L' ↔ q ∈ L ∨ (on = true ∧ q = x)) := fun v h => h.rnote (by have := HI2.out; omega)
                  rw [HQ.out x] at cA
                  obtain ⟨a, ha⟩ : ∃ a, a = (on && !decide (x ∈ L)) := ⟨_, rfl⟩
                  rw [← ha] at cA cU
                  clear ha f4 f5 f6 f7 k5 HX
                  go_wp2_with fail
                  go_region_held3 (fun v => v.cell? ⟨bo, 1, none⟩ = some (.int .u64 (x : Int)))
                    (first | go_keep | exact XC.out _ _ _ _ _ _ X5 | exact XC.out _ _ _ _ _ _ X4)
                    (first | (go_at_call 16; with_reducible refine cA.mono ?_; rintro e w4 ⟨rfl, X4⟩) | (go_at_call 17; with_reducible refine (cU.out _ X4).mono ?_; rintro e w5 ⟨rfl, L', X5, hL⟩))
                  all_goals
                    have HY : Hid (TwB w w5 p r bo kd x (i + 1)) := ⟨on, _, L', X5, like_add HQ.out hL⟩
                    clear X4 X5 hL cA cU XC e0 e1
                    go_wp2_with fail
                    go_meet
                    case rel => exact ⟨0, a, rfl, rfl, rfl, rfl, HY⟩
        case rest =>
          obtain ⟨z, a, rfl, rfl, rfl, rfl, HY⟩ := hcut
          clear HX e0 e1 k1 k2 k3 k4 k5 HQ on W L
          obtain ⟨on, W, L, XM, hq⟩ := HY.out
          have X6 := XM.kp (Kp.refl wc).drew
          have hi2 := hlt.2
          obtain ⟨y, hy⟩ : ∃ y, y = (x + 1) % 18446744073709551616 := ⟨_, rfl⟩
          have yw : IntKind.u64.wrap ((x : Int) + 1) = (y : Int) := by rw [IntKind.wrap_u64]; omega
          obtain ⟨b1, hb1⟩ : ∃ b1, b1 = decide (x ∈ L) := ⟨_, rfl⟩
          obtain ⟨b2, hb2⟩ : ∃ b2, b2 = decide (y ∈ L) := ⟨_, rfl⟩
          have A1 : Aside (∀ v, TwM w v p r bo kd x on W on L (2 * (i + 1)) → Calls Tryd.prog 18 #[.pointer (some ⟨p, 0, none⟩)] v fun e w' => e = .returned (.bool on) ∧ TwM w w' p r bo kd x on W on L (2 * (i + 1))) := fun v h => h.pon
          have A2 : Aside (∀ v, TwM w v p r bo kd x on W on L (2 * (i + 1)) → Calls Tryd.prog 19 #[.pointer (some ⟨p, 0, none⟩), .int .u64 (x : Int)] v fun e w' => e = .returned (.bool b1) ∧ TwM w w' p r bo kd x on W on L (2 * (i + 1))) := fun v h => by rw [hb1, ← hq]; exact h.phas x WX.out
          have A3 : Aside (∀ v, TwM w v p r bo kd x on W on L (2 * (i + 1)) → Calls Tryd.prog 20 #[.pointer (some ⟨r, 0, none⟩), .int .u64 (x : Int)] v fun e w' => e = .returned (.bool b1) ∧ TwM w w' p r bo kd x on W on L (2 * (i + 1))) := fun v h => by rw [hb1]; exact h.rhas (by omega) x
          have A4 : Aside (∀ v, TwM w v p r bo kd x on W on L (2 * (i + 1)) → Calls Tryd.prog 19 #[.pointer (some ⟨p, 0, none⟩), .int .u64 (y : Int)] v fun e w' => e = .returned (.bool b2) ∧ TwM w w' p r bo kd x on W on L (2 * (i + 1))) := fun v h => by rw [hb2, ← hq]; exact h.phas y (by omega)
          have A5 : Aside (∀ v, TwM w v p r bo kd x on W on L (2 * (i + 1)) → Calls Tryd.prog 20 #[.pointer (some ⟨r, 0, none⟩), .int .u64 (y : Int)] v fun e w' => e = .returned (.bool b2) ∧ TwM w w' p r bo kd x on W on L (2 * (i + 1))) := fun v h => by rw [hb2]; exact h.rhas (by omega) y
          have XC : Aside (∀ v, TwM w v p r bo kd x on W on L (2 * (i + 1)) → v.cell? ⟨bo, 1, none⟩ = some (.int .u64 (x : Int)) ∧ v.cell? ⟨r, 0, none⟩ = some (.bool on)) := fun v h => ⟨h.e1, h.1.ron⟩
          have XL : Hid (∀ v, TwM w v p r bo kd x on W on L (2 * (i + 1)) → TwL w v p r (i + 1)) := fun v h => TwB.head ⟨on, W, L, h, hq⟩
          clear XM hq hy hb1 hb2
          go_wp2_with fail
          go_region_held3 (fun v => v.cell? ⟨bo, 1, none⟩ = some (.int .u64 (x : Int)) ∧ v.cell? ⟨r, 0, none⟩ = some (.bool on))
            (first | exact XC.out _ X6 | exact XC.out _ YB | exact XC.out _ YA | exact XC.out _ Y9 | exact XC.out _ Y8 | exact XC.out _ Y7)
            (first
              | (go_at_call 18; with_reducible refine (A1.out _ X6).mono ?_; rintro e w7 ⟨rfl, Y7⟩)
              | (go_at_call 19; with_reducible refine (A2.out _ Y7).mono ?_; rintro e w8 ⟨rfl, Y8⟩)
              | (go_at_call 20; with_reducible refine (A3.out _ Y8).mono ?_; rintro e w9 ⟨rfl, Y9⟩)
              | (go_at_call 19; with_reducible refine (A4.out _ Y9).mono ?_; rintro e wA ⟨rfl, YA⟩)
              | (go_at_call 20; with_reducible refine (A5.out _ YA).mono ?_; rintro e wB ⟨rfl, YB⟩))
          all_goals
            have HZ := hid_as (XL.out _ YB)
            clear X6 Y7 Y8 Y9 YA YB A1 A2 A3 A4 A5 XC XL
            go_wp2_with fail
            go_roundg (101 - (i + 1))
            case measure => omega
            case rel => exact ⟨i + 1, by go_num, by omega, by omega, HZ⟩
      · have HK : Hid (Kp w wr) := by
          obtain ⟨on, W, L, t, _⟩ := HI.out
          exact t.k
        clear HI
        by_cases hm : i < mc
        · have ei : i = 100 := by omega
          subst ei
          have y1 : (100 : Int) < mc := by omega
          rw [show ((100 : Nat) : Int) = 100 from rfl]
          go_wp2_with fail
          go_meet
          case rel => exact HK
        · have y1 : ¬ (i : Int) < mc := by omega
          go_wp2_with fail
          go_meet
          case rel => exact HK
  case rest =>
    have HK : Hid (Kp w wc) := hcut
    clear hcut I0
    have cT := dtold19_any wc (HT.out.kp HK.out)
    go_wp2_with fail
    with_reducible refine cT.mono ?_
    rintro e w1 ⟨rfl, K1⟩
    have HK2 : Hid (Kp w w1) := HK.out.trans K1
    clear K1 cT
    go_wp2
    go_ret
    exact ⟨rfl, HK2.out⟩

end Go.Proofs.YthkkcnnlfjchaaaDoor
