/- TlbApart: its walk. -/
import Derived.Test.YtheahkfgmbmdcaaT12
import Derived.Test.YtheahkfgmbmdcaaT13
import Derived.Test.YtheahkfgmbmdcaaT14
import Derived.Test.YtheahkfgmbmdcaaT15
import Derived.Deep.RegionHeld3
namespace Go.Proofs.Ytheahkfgmbmdcaa
open Go.RowKit
set_option maxRecDepth 10000

/-- The TLB of 8 times 8, the line m in the block bx, behind W. -/
structure AP (W w : World) (b g bx : Nat) (m : LN) (T : Nat → PC) : Prop where
  tp : TP w b g 8 8 T
  x : RX w bx 34 (encL m)
  k : Kp W w
  hg : W.heap.size ≤ g
  nx : bx ≠ g
theorem AP.kp {W w w' : World} {b g bx : Nat} {m : LN} {T : Nat → PC} (h : AP W w b g bx m T) (k : Kp w w') : AP W w' b g bx m T := ⟨h.tp.kp k, h.x.kp k, h.k.trans k, h.hg, h.nx⟩
theorem AP.st {W w w' : World} {b g bx : Nat} {m : LN} {T T' : Nat → PC} (h : AP W w b g bx m T) (t : TP w' b g 8 8 T') (f : Fr (· = g) w w') : AP W w' b g bx m T' :=
  ⟨t, h.x.fr f h.nx, f.kp h.k (fun i hi => by have := h.hg; omega), h.hg, h.nx⟩

set_option maxHeartbeats 8000000 in
theorem apart_any (na : Option Addr) (mc cap : Nat) (V : Nat → OV) (kind : Int) (m : LN) (w : World) (hO : OW w na mc V) :
    Calls Try.prog 5 #[.slice na mc cap, .int .i64 kind, lnV m] w fun e w' => e = .returned (.bool true) ∧ Kp w w' := by
  have cN : ∀ w : World, Calls Try.prog 7 #[.int .i64 8, .int .i64 8] w fun e w' => e = .returned (.tuple #[.pointer (some ⟨w.heap.size + 1, 0, none⟩), .int .i64 0]) ∧ TP w' (w.heap.size + 1) w.heap.size 8 8 td0 ∧ Kp w w' := fun w => tnew_ok 8 8 w rfl (by decide) (by decide)
  obtain ⟨q, hq, q0, q3⟩ : ∃ q : Int, bits .and .i64 kind 3 = q ∧ 0 ≤ q ∧ q ≤ 3 := by
    obtain ⟨n, h1, h2⟩ := and_lim kind 3 (by decide)
    exact ⟨n, h1, by omega, by omega⟩
  have HO : Hid (OW w na mc V) := hO
  clear hO
  rw [show lnV m = .agg #[.int .i64 m.i, .int .i64 m.a, .int .u64 (m.v : Int), .int .u64 (m.p : Int), .int .i64 m.f, .bool m.r, .bool m.q, .bool m.x, .bool m.r2, .bool m.q2, .bool m.x2] from rfl]
  go_enter Try.func5, Try.ntmps5
  go_wp2_with fail
  obtain ⟨w1, hw1⟩ : ∃ w1, w1 = w.alloc (.cells #[.int .i64 m.i, .int .i64 m.a, .int .u64 (m.v : Int), .int .u64 (m.p : Int), .int .i64 m.f, .bool m.r, .bool m.q, .bool m.x, .bool m.r2, .bool m.q2, .bool m.x2] 34) := ⟨_, rfl⟩
  obtain ⟨bx, hbx⟩ : ∃ bx, bx = w.heap.size := ⟨_, rfl⟩
  rw [← hw1, ← hbx]
  have K1 : Kp w w1 := by rw [hw1]; exact (Kp.refl w).alloc _
  have X1 : RX w1 bx 34 (encL m) := by rw [hw1, hbx]; exact RX.made w _ _
  clear hw1 hbx
  with_reducible refine (cN w1).mono ?_
  rintro e w2 ⟨rfl, T2, K2⟩
  obtain ⟨b, hb⟩ : ∃ b, b = w1.heap.size + 1 := ⟨_, rfl⟩
  obtain ⟨g, hg⟩ : ∃ g, g = w1.heap.size := ⟨_, rfl⟩
  rw [← hb]
  rw [← hb, ← hg] at T2
  have I0 : Hid (AP w w2 b g bx m td0) := ⟨T2, X1.kp K2, K1.trans K2, by rw [hg]; exact K1.size, by have := X1.lt; omega⟩
  clear hb hg T2 K2 K1 X1 cN
  go_upto_block 0 with fail
  go_cut [] (fun wx => ∃ T, Hid (AP w wx b g bx m T))
  case first =>
    go_wp2_with fail
    go_loopg [9] 61 (fun gk v9 wr => ∃ (i : Nat) (T : Nat → PC), v9 = .int .i64 (i : Int) ∧ i ≤ 60 ∧ 61 - i ≤ gk ∧ Hid (AP w wr b g bx m T))
    case atStart => exact ⟨0, td0, rfl, by omega, by omega, I0⟩
    case round =>
      clear I0
      obtain ⟨i, T, rfl, hi, hgk, HI⟩ := hrel
      by_cases hlt : i < mc ∧ i < 60
      · have y1 : (i : Int) < mc := by omega
        have y2 : (i : Int) < 60 := by omega
        obtain ⟨⟨cb, co, rfl, hcb, _⟩, _⟩ := HO.out i hlt.1
        obtain ⟨⟨cb', co', hee, _, cc⟩, _⟩ := (HO.out.kp HI.out.k) i hlt.1
        cases hee
        obtain ⟨O, hO⟩ : ∃ O, V i = O := ⟨_, rfl⟩
        rw [hO] at cc
        clear hO
        obtain ⟨kd, st, wy, l⟩ := O
        have o2 := cc 2 _ rfl
        have o3 := cc 3 _ rfl
        have o4 := cc 4 _ rfl
        have o5 := cc 5 _ rfl
        have o6 := cc 6 _ rfl
        have o7 := cc 7 _ rfl
        have o8 := cc 8 _ rfl
        have o9 := cc 9 _ rfl
        have o10 := cc 10 _ rfl
        have o11 := cc 11 _ rfl
        have o12 := cc 12 _ rfl
        have o13 := cc 13 _ rfl
        have cF := fill_any (HI.out.tp.kp ((Kp.refl wr).drew)) l wy
        simp only [lnV] at cF
        clear cc
        have HC : Hid (∀ v, Fr (· = g) wr.drew v → v.cell? ⟨cb, co + i * 14 + 2, none⟩ = some (.int .i64 wy) ∧ v.cell? ⟨cb, co + i * 14 + 3, none⟩ = some (.int .i64 l.i) ∧ v.cell? ⟨cb, co + i * 14 + 4, none⟩ = some (.int .i64 l.a) ∧ v.cell? ⟨cb, co + i * 14 + 5, none⟩ = some (.int .u64 (l.v : Int)) ∧ v.cell? ⟨cb, co + i * 14 + 6, none⟩ = some (.int .u64 (l.p : Int)) ∧ v.cell? ⟨cb, co + i * 14 + 7, none⟩ = some (.int .i64 l.f) ∧ v.cell? ⟨cb, co + i * 14 + 8, none⟩ = some (.bool l.r) ∧ v.cell? ⟨cb, co + i * 14 + 9, none⟩ = some (.bool l.q) ∧ v.cell? ⟨cb, co + i * 14 + 10, none⟩ = some (.bool l.x) ∧ v.cell? ⟨cb, co + i * 14 + 11, none⟩ = some (.bool l.r2) ∧ v.cell? ⟨cb, co + i * 14 + 12, none⟩ = some (.bool l.q2) ∧ v.cell? ⟨cb, co + i * 14 + 13, none⟩ = some (.bool l.x2)) := fun v F => by
          have hc : cb ≠ g := by have := HI.out.hg; omega
          have hl : cb < wr.drew.heap.size := by have := HI.out.k.size; show cb < wr.heap.size; omega
          exact ⟨(F.cell (a := ⟨cb, co + i * 14 + 2, none⟩) hl hc).trans o2, (F.cell (a := ⟨cb, co + i * 14 + 3, none⟩) hl hc).trans o3, (F.cell (a := ⟨cb, co + i * 14 + 4, none⟩) hl hc).trans o4, (F.cell (a := ⟨cb, co + i * 14 + 5, none⟩) hl hc).trans o5, (F.cell (a := ⟨cb, co + i * 14 + 6, none⟩) hl hc).trans o6, (F.cell (a := ⟨cb, co + i * 14 + 7, none⟩) hl hc).trans o7, (F.cell (a := ⟨cb, co + i * 14 + 8, none⟩) hl hc).trans o8, (F.cell (a := ⟨cb, co + i * 14 + 9, none⟩) hl hc).trans o9, (F.cell (a := ⟨cb, co + i * 14 + 10, none⟩) hl hc).trans o10, (F.cell (a := ⟨cb, co + i * 14 + 11, none⟩) hl hc).trans o11, (F.cell (a := ⟨cb, co + i * 14 + 12, none⟩) hl hc).trans o12, (F.cell (a := ⟨cb, co + i * 14 + 13, none⟩) hl hc).trans o13⟩
        go_upto_region 7 with fail
        go_region_held3 (fun v => v.cell? ⟨cb, co + i * 14 + 2, none⟩ = some (.int .i64 wy) ∧ v.cell? ⟨cb, co + i * 14 + 3, none⟩ = some (.int .i64 l.i) ∧ v.cell? ⟨cb, co + i * 14 + 4, none⟩ = some (.int .i64 l.a) ∧ v.cell? ⟨cb, co + i * 14 + 5, none⟩ = some (.int .u64 (l.v : Int)) ∧ v.cell? ⟨cb, co + i * 14 + 6, none⟩ = some (.int .u64 (l.p : Int)) ∧ v.cell? ⟨cb, co + i * 14 + 7, none⟩ = some (.int .i64 l.f) ∧ v.cell? ⟨cb, co + i * 14 + 8, none⟩ = some (.bool l.r) ∧ v.cell? ⟨cb, co + i * 14 + 9, none⟩ = some (.bool l.q) ∧ v.cell? ⟨cb, co + i * 14 + 10, none⟩ = some (.bool l.x) ∧ v.cell? ⟨cb, co + i * 14 + 11, none⟩ = some (.bool l.r2) ∧ v.cell? ⟨cb, co + i * 14 + 12, none⟩ = some (.bool l.q2) ∧ v.cell? ⟨cb, co + i * 14 + 13, none⟩ = some (.bool l.x2))
          (first | go_keep | exact HC.out _ F4)
          (first | (go_at_call 9; with_reducible refine cF.mono ?_; rintro e w4 ⟨rfl, T4, F4⟩))
        have HI2 : Hid (AP w w4 b g bx m (updP T (filI T 8 8 l wy) ⟨true, l⟩)) := (HI.out.kp (Kp.refl wr).drew).st T4 F4
        clear HC HI T4 F4 cF o2 o3 o4 o5 o6 o7 o8 o9 o10 o11 o12 o13
        go_wp2_with fail
        go_roundg (61 - (i + 1))
        case measure => omega
        case rel => exact ⟨i + 1, _, by go_num, by omega, by omega, HI2⟩
      · by_cases hm : i < mc
        · have ei : i = 60 := by omega
          subst ei
          have y1 : (60 : Int) < mc := by omega
          rw [show ((60 : Nat) : Int) = 60 from rfl]
          go_wp2_with fail
          go_meet
          case rel => exact ⟨T, HI⟩
        · have y1 : ¬ (i : Int) < mc := by omega
          go_wp2_with fail
          go_meet
          case rel => exact ⟨T, HI⟩
  case rest =>
    obtain ⟨T, HI⟩ := hcut
    clear I0 HO
    have cL := list_any HI.out.tp
    rw [show 8 * 8 = 64 from rfl] at cL
    go_wp2_with fail
    with_reducible refine cL.mono ?_
    rintro e w3 ⟨⟨vw, rfl, L3⟩, K3⟩
    have L3' : LL w3 (g + 1) vw (lsT T 64) := L3.low HI.out.tp.row.lt
    have A3 := HI.out.kp K3
    obtain ⟨nw, cw, rfl, _⟩ := L3'.form
    have HA : Hid (AP w w3 b g bx m T ∧ LL w3 (g + 1) (.slice nw (lsT T 64).length cw) (lsT T 64) ∧ (lsT T 64).length ≤ 64) := ⟨A3, L3', lsT_len T 64⟩
    obtain ⟨ln, hln⟩ : ∃ ln, (lsT T 64).length = ln := ⟨_, rfl⟩
    rw [hln] at HA ⊢
    clear L3 L3' K3 HI cL A3
    go_upto_block 2 with fail
    go_cut [11] (fun v11 wx => v11 = .int .i64 (losN T (prB q m) 64 : Nat) ∧ Hid (AP w wx b g bx m (losT T (prB q m) 64) ∧ LL wx (g + 1) (.slice nw ln cw) (lsT T 64)))
    case first =>
      have c0 := HA.out.1.x.cell (j := 0) rfl
      have c1 := HA.out.1.x.cell (j := 1) rfl
      have c3 := HA.out.1.x.cell (j := 3) rfl
      have c4 := HA.out.1.x.cell (j := 4) rfl
      rcases (by omega : q = 0 ∨ q = 1 ∨ q = 2 ∨ q = 3) with rfl | rfl | rfl | rfl
      · have cL := id_any HA.out.1.tp m
        rw [show 8 * 8 = 64 from rfl, show suB true false false false false m = prB 0 m from rfl] at cL
        go_wp2_with fail
        with_reducible refine cL.mono ?_
        rintro e w4 ⟨rfl, T4, F4⟩
        have HX : Hid (AP w w4 b g bx m (losT T (prB 0 m) 64) ∧ LL w4 (g + 1) (.slice nw ln cw) (lsT T 64)) := ⟨HA.out.1.st T4 F4, HA.out.2.1.fr F4 (fun i h1 h2 h3 => by omega)⟩
        clear T4 F4 cL HA c0 c1 c3 c4
        go_wp2_with fail
        go_meet
        case rel => exact ⟨rfl, HX⟩
      · have cL := asid_any HA.out.1.tp m
        rw [show 8 * 8 = 64 from rfl, show suB true true false false false m = prB 1 m from rfl] at cL
        go_wp2_with fail
        with_reducible refine cL.mono ?_
        rintro e w4 ⟨rfl, T4, F4⟩
        have HX : Hid (AP w w4 b g bx m (losT T (prB 1 m) 64) ∧ LL w4 (g + 1) (.slice nw ln cw) (lsT T 64)) := ⟨HA.out.1.st T4 F4, HA.out.2.1.fr F4 (fun i h1 h2 h3 => by omega)⟩
        clear T4 F4 cL HA c0 c1 c3 c4
        go_wp2_with fail
        go_meet
        case rel => exact ⟨rfl, HX⟩
      · have cL := page_any HA.out.1.tp m
        rw [show 8 * 8 = 64 from rfl, show suB true false false true false m = prB 2 m from rfl] at cL
        go_wp2_with fail
        with_reducible refine cL.mono ?_
        rintro e w4 ⟨rfl, T4, F4⟩
        have HX : Hid (AP w w4 b g bx m (losT T (prB 2 m) 64) ∧ LL w4 (g + 1) (.slice nw ln cw) (lsT T 64)) := ⟨HA.out.1.st T4 F4, HA.out.2.1.fr F4 (fun i h1 h2 h3 => by omega)⟩
        clear T4 F4 cL HA c0 c1 c3 c4
        go_wp2_with fail
        go_meet
        case rel => exact ⟨rfl, HX⟩
      · have cL := frame_any HA.out.1.tp m
        rw [show 8 * 8 = 64 from rfl, show suB false false false false true m = prB 3 m from rfl] at cL
        go_wp2_with fail
        with_reducible refine cL.mono ?_
        rintro e w4 ⟨rfl, T4, F4⟩
        have HX : Hid (AP w w4 b g bx m (losT T (prB 3 m) 64) ∧ LL w4 (g + 1) (.slice nw ln cw) (lsT T 64)) := ⟨HA.out.1.st T4 F4, HA.out.2.1.fr F4 (fun i h1 h2 h3 => by omega)⟩
        clear T4 F4 cL HA c0 c1 c3 c4
        go_wp2_with fail
        go_meet
        case rel => exact ⟨rfl, HX⟩
    case rest =>
      obtain ⟨rfl, HX⟩ := hcut
      clear HA
      have r1 := lsT_los T (prB q m) 64 64 (Nat.le_refl _)
      have r2 := los_len T (prB q m) 64
      rw [hln] at r2
      have l64 := lsT_len T 64
      rw [hln] at l64
      obtain ⟨L, hL⟩ : ∃ L, lsT T 64 = L := ⟨_, rfl⟩
      rw [hL] at r1 r2 hln HX
      obtain ⟨nl, hnl⟩ : ∃ nl, losN T (prB q m) 64 = nl := ⟨_, rfl⟩
      rw [hnl] at r2 ⊢
      have HR : Hid (lsT (losT T (prB q m) 64) 64 = L.filter (fun l => !prB q m l) ∧ nl + (L.filter (fun l => !prB q m l)).length = ln ∧ L.length = ln) := ⟨r1, r2, hln⟩
      clear r1 r2 hln hL hnl
      have y9 : (ln : Int) ≤ 64 := by omega
      obtain ⟨wq, hwq⟩ : ∃ wq, wq = wc := ⟨_, rfl⟩
      rw [← hwq]
      rw [← hwq] at HX
      clear hwq wc
      go_wp2_with fail
      go_loopg [12, 13] ln (fun gk v12 v13 wr => ∃ i : Nat, v13 = .int .i64 (i : Int) ∧ i ≤ ln ∧ ln - i ≤ gk ∧ Hid (LL wr wq.heap.size v12 ((L.take i).filter (fun l => !prB q m l)) ∧ Kp wq wr))
      case atStart => exact ⟨0, rfl, by omega, by omega, by rw [List.take_zero]; exact LL.nil _ _, Kp.refl _⟩
      case round =>
        obtain ⟨i, rfl, i2, hgk, HL⟩ := hrel
        by_cases hi : i < ln
        · have y1 : (i : Int) < ln := by omega
          obtain ⟨l, hl⟩ : ∃ l, L[i]? = some l := ⟨_, List.getElem?_eq_getElem (by have := HR.out.2.2; omega)⟩
          have t1 : (L.take (i + 1)).filter (fun l => !prB q m l) = (L.take i).filter (fun l => !prB q m l) ++ (if prB q m l = true then [] else [l]) := by
            rw [List.take_add_one, hl, List.filter_append]
            show _ ++ List.filter _ [l] = _
            rw [List.filter_cons, List.filter_nil]
            cases prB q m l <;> rfl
          have t2 : ((L.take i).filter (fun l => !prB q m l)).length ≤ 64 := Nat.le_trans (List.length_filter_le _ _) (by rw [List.length_take]; omega)
          obtain ⟨nw', cw', hee, fw⟩ := (HX.out.2.kp HL.out.2).form
          cases hee
          obtain ⟨gw, rfl, _, _, cc⟩ := fw i l hl
          have A2 := HX.out.1.kp HL.out.2
          have x0 := cc 0 _ rfl
          have x1 := cc 1 _ rfl
          have x2 := cc 2 _ rfl
          have x3 := cc 3 _ rfl
          have x4 := cc 4 _ rfl
          have x5 := cc 5 _ rfl
          have x6 := cc 6 _ rfl
          have x7 := cc 7 _ rfl
          have x8 := cc 8 _ rfl
          have x9 := cc 9 _ rfl
          have x10 := cc 10 _ rfl
          simp only [Nat.add_zero] at x0
          have HT : Hid ((L.take (i + 1)).filter (fun l => !prB q m l) = (L.take i).filter (fun l => !prB q m l) ++ (if prB q m l = true then [] else [l]) ∧ ((L.take i).filter (fun l => !prB q m l)).length ≤ 64) := ⟨t1, t2⟩
          clear cc fw t1 t2 hl
          go_upto_region 23 with fail
          obtain ⟨w6, hw6⟩ : ∃ w6, w6 = wr.alloc (.cells #[.int .i64 l.i, .int .i64 l.a, .int .u64 (l.v : Int), .int .u64 (l.p : Int), .int .i64 l.f, .bool l.r, .bool l.q, .bool l.x, .bool l.r2, .bool l.q2, .bool l.x2] 34) := ⟨_, rfl⟩
          obtain ⟨bl, hbl⟩ : ∃ bl, bl = wr.heap.size := ⟨_, rfl⟩
          rw [← hw6, ← hbl]
          have K6 : Kp wr w6 := by rw [hw6]; exact (Kp.refl wr).alloc _
          have B6 : RX w6 bl 34 (encL l) := by rw [hw6, hbl]; exact RX.made wr _ _
          have X6 := A2.x.kp K6
          have HB : Hid (RX w6 bl 34 (encL l) ∧ Kp wr w6) := ⟨B6, K6⟩
          clear hw6 hbl A2 x0 x1 x2 x3 x4 x5 x6 x7 x8 x9 x10 K6
          go_cut [15] (fun v15 wx => v15 = .bool (prB q m l) ∧ Hid (Kp w6 wx))
          case first =>
            have e0 := B6.cell (j := 0) rfl
            have e1 := B6.cell (j := 1) rfl
            have e3 := B6.cell (j := 3) rfl
            have e4 := B6.cell (j := 4) rfl
            have c0 := X6.cell (j := 0) rfl
            have c1 := X6.cell (j := 1) rfl
            have c3 := X6.cell (j := 3) rfl
            have c4 := X6.cell (j := 4) rfl
            clear B6 X6 HB HT HL HX HR
            obtain ⟨b1, h1⟩ : ∃ b1, (l.i == m.i) = b1 := ⟨_, rfl⟩
            rcases (by omega : q = 0 ∨ q = 1 ∨ q = 2 ∨ q = 3) with rfl | rfl | rfl | rfl
            all_goals cases b1
            all_goals go_wp2_with fail
            all_goals go_meet
            all_goals exact ⟨by simp [prB, suB, h1], (Kp.refl w6).alloc _⟩
          case rest =>
            obtain ⟨rfl, HK⟩ := hcut
            have B7 := HB.out.1.kp HK.out
            have HK7 : Hid (Kp wr wc) := HB.out.2.trans HK.out
            clear B6 X6 HB HK
            obtain ⟨pl, hpl⟩ : ∃ pl, prB q m l = pl := ⟨_, rfl⟩
            rw [hpl] at HT ⊢
            clear hpl
            cases pl
            · rw [if_neg (by decide)] at HT
              obtain ⟨v', w8, r1, r2, r3, _⟩ := (HL.out.1.kp HK7.out).snoc (HL.out.2.trans HK7.out).size l (by have := HT.out.2; omega)
              have HL2 : Hid (LL w8 wq.heap.size v' ((L.take (i + 1)).filter (fun l => !prB q m l)) ∧ Kp wq w8) := ⟨by rw [HT.out.1]; exact r2, r3 wq (Nat.le_refl _) (HL.out.2.trans HK7.out)⟩
              have e0 := B7.cell (j := 0) rfl
              have e1 := B7.cell (j := 1) rfl
              have e2 := B7.cell (j := 2) rfl
              have e3 := B7.cell (j := 3) rfl
              have e4 := B7.cell (j := 4) rfl
              have e5 := B7.cell (j := 5) rfl
              have e6 := B7.cell (j := 6) rfl
              have e7 := B7.cell (j := 7) rfl
              have e8 := B7.cell (j := 8) rfl
              have e9 := B7.cell (j := 9) rfl
              have e10 := B7.cell (j := 10) rfl
              clear HT HL HK7 r2 r3 B7
              repeat' (first | ((with_reducible refine wp_append_of r1 (.tmp 129) (.tmp 131) ?_ ?_ ?_ ?_ ?_); rfl; rfl; rfl; rfl) | go_values | go_skip | go_guarded | go_step | go_upon | go_back | (simp only []) | (go_values <;> (try go_simp)) | (go_ite <;> go_prune <;> (try go_simp)))
              go_roundg (L.length - (i + 1))
              case measure => omega
              case rel => exact ⟨i + 1, by go_num, by omega, by omega, HL2⟩
            · rw [if_pos rfl, List.append_nil] at HT
              have HL2 : Hid (LL wc wq.heap.size u12 ((L.take (i + 1)).filter (fun l => !prB q m l)) ∧ Kp wq wc) := ⟨by rw [HT.out.1]; exact HL.out.1.kp HK7.out, HL.out.2.trans HK7.out⟩
              clear HT HL HK7 B7
              go_wp2_with fail
              go_roundg (L.length - (i + 1))
              case measure => omega
              case rel => exact ⟨i + 1, by go_num, by omega, by omega, HL2⟩
        · have en : i = ln := by omega
          subst en
          have HL2 : Hid (LL wr wq.heap.size u12 (L.filter (fun l => !prB q m l)) ∧ Kp wq wr) := by
            have := HL.out
            rw [List.take_of_length_le (by have := HR.out.2.2; omega)] at this
            exact this
          have HX2 : Hid (AP w wr b g bx m (losT T (prB q m) 64)) := HX.out.1.kp HL.out.2
          have cT := ttold_any
          clear HL HX
          go_wp2_with fail
          with_reducible refine (cT _).mono ?_
          rintro e w7 ⟨rfl, K7⟩
          have A7 := HX2.out.kp K7
          have cL := list_any A7.tp
          rw [show 8 * 8 = 64 from rfl, HR.out.1] at cL
          have HY : Hid (AP w w7 b g bx m (losT T (prB q m) 64) ∧ LL w7 wq.heap.size u12 (L.filter (fun l => !prB q m l))) := ⟨A7, HL2.out.1.kp K7⟩
          clear A7 HX2 HL2 K7 cT
          go_wp2_with fail
          with_reducible refine cL.mono ?_
          rintro e w8 ⟨⟨v8, rfl, L8⟩, K8⟩
          have cS := lines_same L8 (HY.out.2.kp K8) (Nat.le_trans (List.length_filter_le _ _) (by have := HR.out.2.2; omega))
          obtain ⟨nf, cf, hee, _⟩ := HY.out.2.form
          subst hee
          have HZ : Hid (Kp w w8) := HY.out.1.k.trans K8
          obtain ⟨lf, hlf⟩ : ∃ lf, (L.filter (fun l => !prB q m l)).length = lf := ⟨_, rfl⟩
          have HR2 : nl + lf = i := by have := HR.out.2.1; omega
          rw [hlf] at cS ⊢
          clear cL L8 K8 HY HR hlf
          go_wp2_with fail
          with_reducible refine cS.mono ?_
          rintro e w9 ⟨rfl, D9⟩
          have HZ2 : Hid (Kp w w9) := HZ.out.trans D9.kp
          clear cS D9 HZ
          have y3 : (i : Int) - (lf : Int) = (nl : Int) := by omega
          have y4 : ((nl : Int) == (nl : Int)) = true := by simp
          go_wp2
          go_ret
          exact ⟨rfl, HZ2.out⟩

end Go.Proofs.Ytheahkfgmbmdcaa
