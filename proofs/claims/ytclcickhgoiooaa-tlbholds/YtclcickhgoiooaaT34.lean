/- TlbHolds: its first loop, and the whole. -/
import Derived.Test.YtclcickhgoiooaaT33
namespace Go.Proofs.Ytclcickhgoiooaa
open Go.RowKit
set_option maxRecDepth 10000

set_option maxHeartbeats 16000000 in
theorem holds15_any (a0 a1 : Int) (na : Option Addr) (mc cap : Nat) (V : Nat → OV) (w : World) (hO : OW w na mc V) :
    Calls Try.prog 4 #[.int .i64 a0, .int .i64 a1, .slice na mc cap] w fun e w' => e = .returned (.bool true) ∧ Kp w w' := by
  obtain ⟨m, e, s, h1, h2, h3, h4, h5, hp⟩ := sets_pow a0
  obtain ⟨m7, h6, h7⟩ : ∃ m7 : Nat, bits .and .i64 a1 7 = (m7 : Int) ∧ m7 ≤ 7 := and_lim a1 7 (by decide)
  have r := pw_range hp
  obtain ⟨k, hk⟩ : ∃ k, m7 + 1 = k := ⟨_, rfl⟩
  have h8 : (1 : Int) + (m7 : Int) = (k : Int) := by omega
  have c1 := tnew_ok s k w hp (by omega) (by omega)
  have cT := ttold_any
  obtain ⟨b, hb⟩ : ∃ b, b = w.heap.size + 1 := ⟨_, rfl⟩
  obtain ⟨g, hg⟩ : ∃ g, g = w.heap.size := ⟨_, rfl⟩
  rw [← hb, ← hg] at c1
  have HG : Hid (b = w.heap.size + 1 ∧ g = w.heap.size) := ⟨hb, hg⟩
  have HO : Hid (OW w na mc V) := hO
  have HP : Hid (1 ≤ s ∧ s ≤ 64 ∧ 1 ≤ k ∧ k ≤ 8) := by show _ ∧ _; omega
  clear hb hg hp hO hk r
  have z1 : (s : Int) ≤ 64 := by have := HP.out; omega
  have z2 : (e : Int) ≤ 6 := by omega
  have z3 : (m : Int) ≤ 7 := by omega
  have z4 : (m7 : Int) ≤ 7 := by omega
  go_enter Try.func4, Try.ntmps4
  go_wp2_with fail
  with_reducible refine c1.mono ?_
  rintro e w1 ⟨rfl, T1, K1⟩
  have I0 : Hid (HZt w w1 b g s k w1.heap.size (.slice none 0 0) (fun _ => zP) []) := ⟨⟨T1, LL.nil _ _, K1, by rw [HG.out.2]; exact Nat.le_refl _, K1.size, T1.bl, T1.row.lt, Nat.le_refl _⟩, TI.zero s k, (fun _ _ _ _ h => by cases h), (fun _ _ h => by cases h)⟩
  clear c1 T1 K1 HG h1 h2 h3 h4 h5 h6 h7 h8 z2 z3 z4
  have z5 : ¬ (s : Int) = 0 := by have := HP.out; omega
  have z6 : ¬ s = 0 := by have := HP.out; omega
  go_upto_block 0 with fail
  obtain ⟨B, hB⟩ : ∃ B, B = w1.heap.size := ⟨_, rfl⟩
  rw [← hB] at I0
  clear hB
  go_cut [11] (fun v11 wx => ∃ T L, L.length ≤ 80 ∧ Hid (HZt w wx b g s k B v11 T L))
  case first =>
    go_wp2_with fail
    go_loopg [11, 12] 81 (fun gk v11 v12 wr => ∃ (i : Nat) (T : Nat → PC) (L : List LN), v12 = .int .i64 (i : Int) ∧ i ≤ 80 ∧ 81 - i ≤ gk ∧ L.length ≤ i ∧ Hid (HZt w wr b g s k B v11 T L))
    case atStart => exact ⟨0, _, [], rfl, by omega, by omega, Nat.zero_le _, I0⟩
    case round =>
      clear I0
      obtain ⟨i, T, L, rfl, hi, hgk, pk, HI⟩ := hrel
      by_cases hlt : i < mc ∧ i < 80
      · have y1 : (i : Int) < mc := by omega
        have y2 : (i : Int) < 80 := by omega
        obtain ⟨⟨cb, co, rfl, _, cc⟩, _⟩ := (HO.out.kp HI.out.m.k) i hlt.1
        obtain ⟨O, hO⟩ : ∃ O, V i = O := ⟨_, rfl⟩
        rw [hO] at cc
        clear hO
        obtain ⟨kd, st, wy, l⟩ := O
        have o0 := cc 0 _ rfl
        have o1 := cc 1 _ rfl
        have o2 := cc 2 _ rfl
        have o3 := cc 3 _ rfl
        have o4 := cc 4 _ rfl
        have o5 := cc 5 _ rfl
        have o6 := cc 6 _ rfl
        have o7 := cc 7 _ rfl
        have o8 := cc 8 _ rfl
        have o9 := cc 9 _ rfl
        have o10 := cc 10 _ rfl
        have o11 := cc 11 _ rfl
        have o12 := cc 12 _ rfl
        have o13 := cc 13 _ rfl
        simp only [Nat.add_zero] at o0
        clear cc
        go_upto_region 10 with fail
        obtain ⟨w3, hw3⟩ : ∃ w3, w3 = wr.alloc (.cells #[.int .i64 kd, .int .i64 st, .int .i64 wy, .int .i64 l.i, .int .i64 l.a, .int .u64 (l.v : Int), .int .u64 (l.p : Int), .int .i64 l.f, .bool l.r, .bool l.q, .bool l.x, .bool l.r2, .bool l.q2, .bool l.x2] 56) := ⟨_, rfl⟩
        obtain ⟨bo, hbo⟩ : ∃ bo, bo = wr.heap.size := ⟨_, rfl⟩
        rw [← hw3, ← hbo]
        have K3 : Kp wr w3 := by rw [hw3]; exact (Kp.refl wr).alloc _
        have X3 : RX w3 bo 56 (encO ⟨kd, st, wy, l⟩) := by rw [hw3, hbo]; exact RX.made wr _ _
        have HBO : Hid (bo ≠ g) := by
          have := HI.out.m.tp.row.lt
          show bo ≠ g
          omega
        have HZ : Hid (HZt w w3 b g s k B u11 T L ∧ RX w3 bo 56 (encO ⟨kd, st, wy, l⟩)) := ⟨HI.out.kp K3, X3⟩
        have d0 := X3.cell (j := 0) rfl
        dsimp only at d0
        obtain ⟨t, mo, m1, m2, m3, m4, m5⟩ := place_of kd 12 (by decide)
        rw [show (((12 : Nat) : Int)) = 12 from rfl] at m1 m2 m3 m4
        have m6 : (mo : Int) < 12 := by omega
        clear hw3 hbo K3 X3 HI o0 o1 o2 o3 o4 o5 o6 o7 o8 o9 o10 o11 o12 o13
        go_upto_region 11 with fail
        clear m1 m2 m3 m4 d0
        by_cases h5 : mo < 5
        · skip
          have y3 : (mo : Int) < 5 := by omega
          have hs := HZ.out.1.m.tp.s0
          have hk := HZ.out.1.m.tp.k0
          obtain ⟨idx, hidx⟩ : ∃ idx, filI T s k l wy = idx := ⟨_, rfl⟩
          have cF := fill_any HZ.out.1.m.tp l wy
          have ff := fill_found HZ.out.1.ti HZ.out.1.uq hs hk l wy
          have fs := fill_set HZ.out.1.ti hs hk l wy
          have HN : Hid (TI (updP T idx ⟨true, l⟩) s k ∧ UQ (updP T idx ⟨true, l⟩) (s * k) ∧ NWt (updP T idx ⟨true, l⟩) (s * k) (L ++ [l])) := by
            show _ ∧ _
            rw [← hidx]
            exact ⟨HZ.out.1.ti.fill l wy hk, HZ.out.1.uq.fill HZ.out.1.ti hs hk l wy, HZ.out.1.nw.fill HZ.out.1.ti HZ.out.1.uq hs hk l wy⟩
          rw [hidx] at cF ff fs
          have CFi : Aside (∀ w', TP w' b g s k (updP T idx ⟨true, l⟩) → Calls Try.prog 13 #[.pointer (some ⟨b, 0, none⟩), .int .i64 l.i, .int .i64 l.a, .int .u64 (l.v : Int)] w' fun e w'' => e = .returned (.tuple #[.agg #[.int .i64 l.i, .int .i64 l.a, .int .u64 (l.v : Int), .int .u64 (l.p : Int), .int .i64 l.f, .bool l.r, .bool l.q, .bool l.x, .bool l.r2, .bool l.q2, .bool l.x2], .bool true]) ∧ Kp w' w'') := fun w' h => by
            have := find_any h l.i l.a l.v
            rw [ff.1, ff.2] at this
            exact this
          obtain ⟨C, hC⟩ : ∃ C, T idx = C := ⟨_, rfl⟩
          rw [hC] at cF fs
          obtain ⟨on, lo⟩ := C
          replace fs : on = true → lo.v % s = l.v % s := fs
          simp only [lnV] at cF
          have X3 := HZ.out.2
          have o2 := X3.cell (j := 2) rfl
          have o3 := X3.cell (j := 3) rfl
          have o4 := X3.cell (j := 4) rfl
          have o5 := X3.cell (j := 5) rfl
          have o6 := X3.cell (j := 6) rfl
          have o7 := X3.cell (j := 7) rfl
          have o8 := X3.cell (j := 8) rfl
          have o9 := X3.cell (j := 9) rfl
          have o10 := X3.cell (j := 10) rfl
          have o11 := X3.cell (j := 11) rfl
          have o12 := X3.cell (j := 12) rfl
          have o13 := X3.cell (j := 13) rfl
          have HM : Hid (FZt w w3 b g s k B u11 T L ∧ RX w3 bo 56 (encO ⟨kd, st, wy, l⟩) ∧ bo ≠ g) := ⟨HZ.out.1.m, X3, HBO.out⟩
          have HF : Hid (on = true → lo.v % s = l.v % s) := fs
          clear X3 HZ hidx hC ff hs hk fs
          go_wp2_with fail
          with_reducible refine cF.mono ?_
          rintro e w4 ⟨rfl, T4, F4⟩
          have HM4 : Hid (FZt w w4 b g s k B u11 (updP T idx ⟨true, l⟩) L ∧ RX w4 bo 56 (encO ⟨kd, st, wy, l⟩)) := ⟨HM.out.1.st T4 F4, HM.out.2.1.fr F4 HM.out.2.2⟩
          clear cF T4 F4 HM o2 o3 o4 o5 o6 o7 o8 o9 o10 o11 o12 o13
          go_upto_region 13 with fail
          obtain ⟨w5, hw5⟩ : ∃ w5, w5 = w4.alloc (.cells #[.int .i64 lo.i, .int .i64 lo.a, .int .u64 (lo.v : Int), .int .u64 (lo.p : Int), .int .i64 lo.f, .bool lo.r, .bool lo.q, .bool lo.x, .bool lo.r2, .bool lo.q2, .bool lo.x2] 54) := ⟨_, rfl⟩
          obtain ⟨b15, hb15⟩ : ∃ b15, b15 = w4.heap.size := ⟨_, rfl⟩
          rw [← hw5, ← hb15]
          have K5 : Kp w4 w5 := by rw [hw5]; exact (Kp.refl w4).alloc _
          have Y5 : RX w5 b15 54 (encL lo) := by rw [hw5, hb15]; exact RX.made w4 _ _
          have X5 := HM4.out.2.kp K5
          have o3 := X5.cell (j := 3) rfl
          have o4 := X5.cell (j := 4) rfl
          have o5 := X5.cell (j := 5) rfl
          have c5 := CFi.out _ (HM4.out.1.kp K5).tp
          have HM5 : Hid (FZt w w5 b g s k B u11 (updP T idx ⟨true, l⟩) L ∧ RX w5 bo 56 (encO ⟨kd, st, wy, l⟩) ∧ RX w5 b15 54 (encL lo)) := ⟨HM4.out.1.kp K5, X5, Y5⟩
          clear hw5 hb15 K5 Y5 X5 HM4 CFi
          go_wp2_with fail
          with_reducible refine c5.mono ?_
          rintro e w6 ⟨rfl, K6⟩
          have HM6 : Hid (FZt w w6 b g s k B u11 (updP T idx ⟨true, l⟩) L ∧ RX w6 bo 56 (encO ⟨kd, st, wy, l⟩) ∧ RX w6 b15 54 (encL lo)) := ⟨HM5.out.1.kp K6, HM5.out.2.1.kp K6, HM5.out.2.2.kp K6⟩
          clear c5 K6 HM5 o3 o4 o5
          go_upto_region 14 with fail
          obtain ⟨w7, hw7⟩ : ∃ w7, w7 = w6.alloc (.cells #[.int .i64 l.i, .int .i64 l.a, .int .u64 (l.v : Int), .int .u64 (l.p : Int), .int .i64 l.f, .bool l.r, .bool l.q, .bool l.x, .bool l.r2, .bool l.q2, .bool l.x2] 54) := ⟨_, rfl⟩
          obtain ⟨b17, hb17⟩ : ∃ b17, b17 = w6.heap.size := ⟨_, rfl⟩
          rw [← hw7, ← hb17]
          have K7 : Kp w6 w7 := by rw [hw7]; exact (Kp.refl w6).alloc _
          have Y7 : RX w7 b17 54 (encL l) := by rw [hw7, hb17]; exact RX.made w6 _ _
          have X7 := HM6.out.2.1.kp K7
          have Z7 := (HM6.out.2.2.kp K7).cell (j := 2) rfl
          have x0 := Y7.cell (j := 0) rfl
          have x1 := Y7.cell (j := 1) rfl
          have x2 := Y7.cell (j := 2) rfl
          have x3 := Y7.cell (j := 3) rfl
          have x4 := Y7.cell (j := 4) rfl
          have x5 := Y7.cell (j := 5) rfl
          have x6 := Y7.cell (j := 6) rfl
          have x7 := Y7.cell (j := 7) rfl
          have x8 := Y7.cell (j := 8) rfl
          have x9 := Y7.cell (j := 9) rfl
          have x10 := Y7.cell (j := 10) rfl
          have o3 := X7.cell (j := 3) rfl
          have o4 := X7.cell (j := 4) rfl
          have o5 := X7.cell (j := 5) rfl
          have o6 := X7.cell (j := 6) rfl
          have o7 := X7.cell (j := 7) rfl
          have o8 := X7.cell (j := 8) rfl
          have o9 := X7.cell (j := 9) rfl
          have o10 := X7.cell (j := 10) rfl
          have o11 := X7.cell (j := 11) rfl
          have o12 := X7.cell (j := 12) rfl
          have o13 := X7.cell (j := 13) rfl
          have q1 : ∀ w, (Op.equalIn 10000 54 (lnV l) (lnV l)).run Try.prog w = .ok true w := fun w => by rw [eq_line, samL_refl]
          simp only [lnV] at q1
          obtain ⟨q, hq⟩ : ∃ q, l.v % s = q := ⟨_, rfl⟩
          have q2 : (l.v : Int).tmod (s : Int) = (q : Int) := by rw [← hq]; rfl
          have q3 : on = true → (lo.v : Int).tmod (s : Int) = (q : Int) := fun e => by rw [← hq, ← HF.out e]; rfl
          have q4 : ((q : Int) == (q : Int)) = true := by simp
          have q5 : (q == q) = true := by simp
          have HM7 : Hid (FZt w w7 b g s k B u11 (updP T idx ⟨true, l⟩) L ∧ RX w7 bo 56 (encO ⟨kd, st, wy, l⟩)) := ⟨HM6.out.1.kp K7, X7⟩
          clear hw7 hb17 K7 Y7 X7 HM6 hq HF
          go_cut [118] (fun v118 wx => v118 = .bool false ∧ Hid (FZt w wx b g s k B u11 (updP T idx ⟨true, l⟩) L ∧ RX wx bo 56 (encO ⟨kd, st, wy, l⟩)))
          case first =>
            have HM8 : Hid (∀ nq, FZt w (w7.drewN nq) b g s k B u11 (updP T idx ⟨true, l⟩) L ∧ RX (w7.drewN nq) bo 56 (encO ⟨kd, st, wy, l⟩)) := fun nq => ⟨HM7.out.1.kp ((Kp.refl _).drewN nq), HM7.out.2.kp ((Kp.refl _).drewN nq)⟩
            clear HM7 HN
            dsimp only at o3 o4 o5 o6 o7 o8 o9 o10 o11 o12 o13
            cases on
            · go_quiet (fail)
              go_wp2_with fail
              go_meet
              case rel => exact ⟨rfl, HM8.out _⟩
            · have q6 := q3 rfl
              go_quiet (fail)
              go_wp2_with fail
              go_meet
              case rel => exact ⟨rfl, HM8.out _⟩
          case rest =>
            obtain ⟨rfl, HM9⟩ := hcut
            clear HM7 o3 o4 o5 o6 o7 o8 o9 o10 o11 o12 o13 x0 x1 x2 x3 x4 x5 x6 x7 x8 x9 x10 Z7 q1 q2 q3
            have X9 := HM9.out.2
            have o3 := X9.cell (j := 3) rfl
            have o4 := X9.cell (j := 4) rfl
            have o5 := X9.cell (j := 5) rfl
            have o6 := X9.cell (j := 6) rfl
            have o7 := X9.cell (j := 7) rfl
            have o8 := X9.cell (j := 8) rfl
            have o9 := X9.cell (j := 9) rfl
            have o10 := X9.cell (j := 10) rfl
            have o11 := X9.cell (j := 11) rfl
            have o12 := X9.cell (j := 12) rfl
            have o13 := X9.cell (j := 13) rfl
            dsimp only at o3 o4 o5 o6 o7 o8 o9 o10 o11 o12 o13
            obtain ⟨v', w10, r1, r2, r3, r4⟩ := HM9.out.1.ll.snoc HM9.out.1.lw l (by omega)
            have HZ2 : Hid (HZt w w10 b g s k B v' (updP T idx ⟨true, l⟩) (L ++ [l])) := by
              refine ⟨⟨?_, r2, r3 w HM9.out.1.hB HM9.out.1.k, HM9.out.1.hg, HM9.out.1.hB, HM9.out.1.bB, HM9.out.1.gB, Nat.le_trans HM9.out.1.lw r4.size⟩, HN.out.1, HN.out.2.1, HN.out.2.2⟩
              exact HM9.out.1.tp.fr r4 (fun c => by have := (HM9.out.1.ll.up _ c).1; have := HM9.out.1.bB; omega) (fun c => by have := (HM9.out.1.ll.up _ c).1; have := HM9.out.1.gB; omega)
            have HM : Hid ((L ++ [l]).length ≤ i + 1) := by
              show _ ≤ _
              rw [List.length_append, List.length_singleton]
              omega
            clear X9 r2 r3 r4 HM9 HN
            repeat' (first | ((with_reducible refine wp_append_of r1 (.tmp 119) (.tmp 122) ?_ ?_ ?_ ?_ ?_); rfl; rfl; rfl; rfl) | go_values | go_skip | go_guarded | go_step | go_upon | go_back | (simp only []) | (go_values <;> (try go_simp)) | (go_ite <;> go_prune <;> (try go_simp)))
            go_roundg (81 - (i + 1))
            case measure => omega
            case rel => exact ⟨i + 1, _, _, by go_num, by omega, by omega, HM.out, HZ2⟩
        · have y3 : ¬ (mo : Int) < 5 := by omega
          go_upto_block 2 with fail
          by_cases h7 : mo = 7
          · subst h7
            rw [show ((7 : Nat) : Int) = 7 from rfl]
            have X3 := HZ.out.2
            have o3 := X3.cell (j := 3) rfl
            dsimp only at o3
            have cL := id_any HZ.out.1.m.tp l
            have HZ1 : Hid (HZt w w3 b g s k B u11 T L ∧ RX w3 bo 56 (encO ⟨kd, st, wy, l⟩)) := HZ.out
            clear X3 HZ
            go_wp2_with fail
            with_reducible refine cL.mono ?_
            rintro e w4 ⟨rfl, T4, F4⟩
            obtain ⟨T', hT'⟩ : ∃ T', losT T (suB true false false false false l) (s * k) = T' := ⟨_, rfl⟩
            have hid := los_id T l (s * k)
            rw [hT'] at T4 hid
            have HZ2 : Hid (HZt w w4 b g s k B u11 T' L ∧ RX w4 bo 56 (encO ⟨kd, st, wy, l⟩)) := ⟨HZ1.out.1.sub T4 F4 (by rw [← hT']; exact HZ1.out.1.ti.los _ _) (by rw [← hT']; exact SubT.los _ _ _), HZ1.out.2.fr F4 HBO.out⟩
            have HID : Hid (∀ p, p < s * k → (T' p).on = true → (T' p).l.i ≠ l.i) := hid
            clear cL T4 F4 HZ1 o3 hT' hid
            obtain ⟨nl, cl, hee, _⟩ := HZ2.out.1.m.ll.form
            subst hee
            obtain ⟨ln, hln⟩ : ∃ ln, L.length = ln := ⟨_, rfl⟩
            rw [hln] at HZ2 pk ⊢
            have HLN : Hid (L.length = ln) := hln
            clear hln
            go_wp2_with fail
            go_loopg [19] ln (fun gk v19 wr => ∃ (j : Nat), v19 = .int .i64 (j : Int) ∧ j ≤ ln ∧ ln - j ≤ gk ∧ Hid (HZt w wr b g s k B (.slice nl ln cl) T' L ∧ RX wr bo 56 (encO ⟨kd, st, wy, l⟩)))
            case atStart => exact ⟨0, rfl, by omega, by omega, HZ2⟩
            case round =>
              clear HZ2
              obtain ⟨j, rfl, j2, hgj, HR⟩ := hrel
              have y7 : (ln : Int) ≤ 80 := by omega
              by_cases hj : j < ln
              · have y8 : (j : Int) < ln := by omega
                obtain ⟨y, hy⟩ : ∃ y, L[j]? = some y := ⟨_, List.getElem?_eq_getElem (by have := HLN.out; omega)⟩
                obtain ⟨nl', cl', hee, fw⟩ := HR.out.1.m.ll.form
                cases hee
                obtain ⟨gl, rfl, hgl, _, cc⟩ := fw j y hy
                have o3 := HR.out.2.cell (j := 3) rfl
                dsimp only at o3
                have p1 := cc 1 _ rfl
                have p2 := cc 2 _ rfl
                obtain ⟨fl, hfl⟩ : ∃ fl, fndL T' s k l.i y.a y.v = fl := ⟨_, rfl⟩
                have CFi : Aside (∀ v, Kp wr v → Calls Try.prog 13 #[.pointer (some ⟨b, 0, none⟩), .int .i64 l.i, .int .i64 y.a, .int .u64 (y.v : Int)] v fun e w' => e = .returned (.tuple #[.agg #[.int .i64 fl.i, .int .i64 fl.a, .int .u64 (fl.v : Int), .int .u64 (fl.p : Int), .int .i64 fl.f, .bool fl.r, .bool fl.q, .bool fl.x, .bool fl.r2, .bool fl.q2, .bool fl.x2], .bool false]) ∧ Kp v w') := fun v kv => by
                  have := find_any (HR.out.1.m.tp.kp kv) l.i y.a y.v
                  rw [hfl, fnd_none l.i y.a y.v HP.out.1 HID.out] at this
                  exact this
                have HXL := HR.out.2.lt
                clear fw cc hfl
                go_upto_region 24 with fail
                go_cut [21] (fun v21 wx => v21 = .bool false ∧ Hid (Kp wr wx))
                case first =>
                  have HSK : Hid (∀ v, Kp wr v → v.cell? ⟨bo, 3, none⟩ = some (.int .i64 l.i) ∧ v.cell? ⟨gl, j * 11 + 1, none⟩ = some (.int .i64 y.a) ∧ v.cell? ⟨gl, j * 11 + 2, none⟩ = some (.int .u64 (y.v : Int))) := fun v kv => ⟨(kv.cell (p := ⟨bo, 3, none⟩) HXL).trans o3, (kv.cell (p := ⟨gl, j * 11 + 1, none⟩) hgl).trans p1, (kv.cell (p := ⟨gl, j * 11 + 2, none⟩) hgl).trans p2⟩
                  have KA : Kp wr (wr.alloc (.cells #[.int .i64 0, .int .i64 0, .int .u64 0, .int .u64 0, .int .i64 0, .bool false, .bool false, .bool false, .bool false, .bool false, .bool false] 54)) := (Kp.refl wr).alloc _
                  have ZF : Hid (∀ w4, Kp (wr.alloc (.cells #[.int .i64 0, .int .i64 0, .int .u64 0, .int .u64 0, .int .i64 0, .bool false, .bool false, .bool false, .bool false, .bool false, .bool false] 54)).drew w4 → RX w4 wr.heap.size 54 (encL zL)) := fun w4 F => ((RX.made wr 54 (encL zL)).kp (Kp.refl _).drew).kp F
                  have n1 : ¬ bo = wr.heap.size := by omega
                  have n2 : ¬ gl = wr.heap.size := by omega
                  have n3 : ¬ wr.heap.size = bo := by omega
                  have n4 : ¬ wr.heap.size = gl := by omega
                  go_region_held3 (fun v => v.cell? ⟨bo, 3, none⟩ = some (.int .i64 l.i) ∧ v.cell? ⟨gl, j * 11 + 1, none⟩ = some (.int .i64 y.a) ∧ v.cell? ⟨gl, j * 11 + 2, none⟩ = some (.int .u64 (y.v : Int)))
                    (first | go_keep | exact HSK.out _ ((Kp.refl _).drew.trans K4) | exact HSK.out _ (((Kp.refl _).alloc _).drew.trans K4) | exact HSK.out _ ((Kp.refl _).drew.trans (K4.alloc _)))
                    (first | (go_at_call 13; first | (with_reducible refine (CFi.out _ (by exact (Kp.refl _).drew)).mono ?_; rintro e w4 ⟨rfl, K4⟩) | (with_reducible refine (CFi.out _ (by exact ((Kp.refl _).alloc _).drew)).mono ?_; rintro e w4 ⟨rfl, K4⟩; have Y4 := ZF.out _ K4; have fy := Y4.fz; have e0 := Y4.cell (j := 0) rfl; have e1 := Y4.cell (j := 1) rfl; have e2 := Y4.cell (j := 2) rfl; have e3 := Y4.cell (j := 3) rfl; have e4 := Y4.cell (j := 4) rfl; have e5 := Y4.cell (j := 5) rfl; have e6 := Y4.cell (j := 6) rfl; have e7 := Y4.cell (j := 7) rfl; have e8 := Y4.cell (j := 8) rfl; have e9 := Y4.cell (j := 9) rfl; have e10 := Y4.cell (j := 10) rfl)))
                  all_goals go_wp2_with fail
                  all_goals go_meet
                  all_goals first | (have Y5 := Y4; rw [← putR_11z]; exact ⟨rfl, Kp.putR (Nat.le_refl _) _ _ _ (((Kp.refl wr).alloc _).drew.trans K4)⟩) | exact ⟨rfl, ((Kp.refl wr).drew.trans K4).alloc _⟩
                case rest =>
                  obtain ⟨rfl, HK⟩ := hcut
                  have HR2 : Hid (HZt w wc b g s k B (.slice (some ⟨gl, 0, none⟩) L.length cl) T' L ∧ RX wc bo 56 (encO ⟨kd, st, wy, l⟩)) := ⟨HR.out.1.kp HK.out, HR.out.2.kp HK.out⟩
                  clear HR HK CFi o3 p1 p2
                  go_wp2_with fail
                  go_roundg (L.length - (j + 1))
                  case measure => omega
                  case rel => exact ⟨j + 1, by go_num, by omega, by omega, HR2⟩
              · have y8 : ¬ (j : Int) < ln := by omega
                have HR2 := HR.out.1
                have HR3 : Hid (HZt w wr b g s k B (.slice nl ln cl) T' L) := HR2
                clear HR HR2
                go_wp2_with fail
                go_roundg (81 - (i + 1))
                case measure => omega
                case rel => exact ⟨i + 1, _, L, by go_num, by omega, by omega, by have := HLN.out; omega, HR3⟩
          · have y4 : ((mo : Int) == 7) = false := by rw [beq_eq_false_iff_ne]; omega
            by_cases h10 : mo = 10
            · subst h10
              rw [show ((10 : Nat) : Int) = 10 from rfl]
              have X3 := HZ.out.2
              have o3 := X3.cell (j := 3) rfl
              have o6 := X3.cell (j := 6) rfl
              dsimp only at o3 o6
              have cL := page_any HZ.out.1.m.tp l
              have HZ1 : Hid (HZt w w3 b g s k B u11 T L) := HZ.out.1
              clear X3 HZ
              go_wp2_with fail
              with_reducible refine cL.mono ?_
              rintro e w4 ⟨rfl, T4, F4⟩
              have HZ2 : Hid (HZt w w4 b g s k B u11 (losT T (suB true false false true false l) (s * k)) L) := HZ1.out.sub T4 F4 (HZ1.out.ti.los _ _) (SubT.los _ _ _)
              clear cL T4 F4 HZ1 o3 o6
              go_wp2_with fail
              go_roundg (81 - (i + 1))
              case measure => omega
              case rel => exact ⟨i + 1, _, L, by go_num, by omega, by omega, by omega, HZ2⟩
            · have y5 : ((mo : Int) == 10) = false := by rw [beq_eq_false_iff_ne]; omega
              by_cases h11 : mo = 11
              · subst h11
                rw [show ((11 : Nat) : Int) = 11 from rfl]
                have X3 := HZ.out.2
                have o7 := X3.cell (j := 7) rfl
                dsimp only at o7
                have cL := frame_any HZ.out.1.m.tp l
                have HZ1 : Hid (HZt w w3 b g s k B u11 T L) := HZ.out.1
                clear X3 HZ
                go_wp2_with fail
                with_reducible refine cL.mono ?_
                rintro e w4 ⟨rfl, T4, F4⟩
                have HZ2 : Hid (HZt w w4 b g s k B u11 (losT T (suB false false false false true l) (s * k)) L) := HZ1.out.sub T4 F4 (HZ1.out.ti.los _ _) (SubT.los _ _ _)
                clear cL T4 F4 HZ1 o7
                go_wp2_with fail
                go_roundg (81 - (i + 1))
                case measure => omega
                case rel => exact ⟨i + 1, _, L, by go_num, by omega, by omega, by omega, HZ2⟩
              · have y6 : ((mo : Int) == 11) = false := by rw [beq_eq_false_iff_ne]; omega
                have X3 := HZ.out.2
                have o1 := X3.cell (j := 1) rfl
                have o2 := X3.cell (j := 2) rfl
                dsimp only at o1 o2
                have cL := evict_any HZ.out.1.m.tp st wy
                have HZ1 : Hid (HZt w w3 b g s k B u11 T L) := HZ.out.1
                clear X3 HZ
                go_wp2_with fail
                with_reducible refine cL.mono ?_
                rintro e w4 ⟨rfl, T4, F4⟩
                have HZ2 : Hid (HZt w w4 b g s k B u11 (evT T s k st wy) L) := HZ1.out.sub T4 F4 (HZ1.out.ti.ev _ _) (SubT.ev _ _ _ _ _)
                clear cL T4 F4 HZ1 o1 o2
                go_wp2_with fail
                go_roundg (81 - (i + 1))
                case measure => omega
                case rel => exact ⟨i + 1, _, L, by go_num, by omega, by omega, by omega, HZ2⟩
      · by_cases hm : i < mc
        · have ei : i = 80 := by omega
          subst ei
          have y1 : (80 : Int) < mc := by omega
          rw [show ((80 : Nat) : Int) = 80 from rfl]
          go_wp2_with fail
          go_meet
          case rel => exact ⟨T, L, pk, HI⟩
        · have y1 : ¬ (i : Int) < mc := by omega
          go_wp2_with fail
          go_meet
          case rel => exact ⟨T, L, by omega, HI⟩
  case rest =>
    rename_i hK
    exact hK _ _ (holds15_rest cT HP z1 z5 z6 hcut)

end Go.Proofs.Ytclcickhgoiooaa
