/- TlbPlays: its walk. -/
import Derived.Test.YtheahkfgmbmdcaaT12
import Derived.Test.YtheahkfgmbmdcaaT13
import Derived.Test.YtheahkfgmbmdcaaT14
import Derived.Test.YtheahkfgmbmdcaaT26
namespace Go.Proofs.Ytheahkfgmbmdcaa
open Go.RowKit
set_option maxRecDepth 10000

set_option maxHeartbeats 16000000 in
theorem plays15_no (s k : Int) (na : Option Addr) (mc cap : Nat) (w : World) (hp : ¬ (pwB s = true ∧ 1 ≤ k ∧ k ≤ 8)) (hm : mc ≤ maxLen) :
    Calls Try.prog 3 #[.int .i64 s, .int .i64 k, .slice na mc cap] w fun e w' => e = .returned (.bool true) ∧ Kp w w' := by
  have c1 := fun w => tnew_no s k w hp
  have c2 := fun w => trnew_no s k w hp
  have cT := ttold_any
  unfold maxLen at hm
  clear hp
  go_enter Try.func3, Try.ntmps3
  go_wp2_with fail
  with_reducible refine (c1 _).mono ?_
  rintro e w ⟨rfl, rfl⟩
  go_wp2_with fail
  with_reducible refine (c2 _).mono ?_
  rintro e w ⟨rfl, rfl⟩
  clear c1 c2
  go_upto_block 0 with fail
  go_cut [] (fun wx => Hid (wx = w))
  case first =>
    go_wp2_with fail
    go_loopg [11] 1 (fun gk v11 wr => v11 = .int .i64 0 ∧ Hid (wr = w))
    case atStart => exact ⟨rfl, rfl⟩
    case round =>
      obtain ⟨rfl, HW⟩ := hrel
      by_cases h0 : 0 < mc
      · have y1 : (0 : Int) < mc := by omega
        go_wp2_with fail
        go_meet
        case rel => exact HW
      · have y1 : ¬ (0 : Int) < mc := by omega
        go_wp2_with fail
        go_meet
        case rel => exact HW
  case rest =>
    have hw := hcut.out
    subst hw
    go_wp2_with fail
    with_reducible refine (cT _).mono ?_
    rintro e w1 ⟨rfl, K1⟩
    have HK : Hid (Kp wc w1) := K1
    clear K1 cT
    go_wp2
    go_ret
    exact ⟨rfl, HK.out⟩

set_option maxHeartbeats 16000000 in
theorem plays15_ok (s k : Nat) (na : Option Addr) (mc cap : Nat) (V : Nat → OV) (w : World) (hO : OW w na mc V) (hp : pwB (s : Int) = true) (k0 : 1 ≤ k) (k1 : k ≤ 8) :
    Calls Try.prog 3 #[.int .i64 (s : Int), .int .i64 (k : Int), .slice na mc cap] w fun e w' => e = .returned (.bool true) ∧ Kp w w' := by
  have c1 := tnew_ok s k w hp k0 k1
  have c2 := fun w => trnew_ok s k w hp k0 k1
  have cT := ttold_any
  have HO : Hid (OW w na mc V) := hO
  clear hp hO
  obtain ⟨b, hb⟩ : ∃ b, b = w.heap.size + 1 := ⟨_, rfl⟩
  obtain ⟨g, hg⟩ : ∃ g, g = w.heap.size := ⟨_, rfl⟩
  rw [← hb, ← hg] at c1
  have HG : Hid (b = w.heap.size + 1 ∧ g = w.heap.size) := ⟨hb, hg⟩
  clear hb hg
  go_enter Try.func3, Try.ntmps3
  go_wp2_with fail
  with_reducible refine c1.mono ?_
  rintro e w1 ⟨rfl, T1, K1⟩
  have c3 := c2 w1
  obtain ⟨br, hbr⟩ : ∃ br, br = w1.heap.size + 1 := ⟨_, rfl⟩
  obtain ⟨gr, hgr⟩ : ∃ gr, gr = w1.heap.size := ⟨_, rfl⟩
  rw [← hbr, ← hgr] at c3
  have HT : Hid (TP w1 b g s k (fun _ => zP) ∧ Kp w w1 ∧ br = w1.heap.size + 1 ∧ gr = w1.heap.size) := ⟨T1, K1, hbr, hgr⟩
  clear c1 c2 T1 K1 hbr hgr
  go_wp2_with fail
  with_reducible refine c3.mono ?_
  rintro e w2 ⟨rfl, T2, K2⟩
  have I0 : Hid (BT w w2 b g br gr s k (fun _ => zP) (fun _ => zP) ∧ TI (fun _ => zP) s k) := by
    obtain ⟨T1, K1, e1, e2⟩ := HT.out
    obtain ⟨e3, e4⟩ := HG.out
    have := T1.row.lt
    have := T1.bl
    exact ⟨⟨T1.kp K2, T2, K1.trans K2, by omega, by have := K1.size; omega, by omega, by omega, by omega⟩, TI.zero s k⟩
  clear c3 T2 K2 HT HG
  go_upto_block 0 with fail
  go_cut [] (fun wx => Hid (Kp w wx))
  case first =>
    go_wp2_with fail
    go_loopg [11] 81 (fun gk v11 wr => ∃ (i : Nat) (T : Nat → PC), v11 = .int .i64 (i : Int) ∧ i ≤ 80 ∧ 81 - i ≤ gk ∧ Hid (BT w wr b g br gr s k T T ∧ TI T s k))
    case atStart => exact ⟨0, _, rfl, by omega, by omega, I0⟩
    case round =>
      clear I0
      obtain ⟨i, T, rfl, hi, hgk, HI⟩ := hrel
      by_cases hlt : i < mc ∧ i < 80
      · have y1 : (i : Int) < mc := by omega
        have y2 : (i : Int) < 80 := by omega
        obtain ⟨⟨cb, co, rfl, _, cc⟩, _⟩ := (HO.out.kp HI.out.1.k) i hlt.1
        obtain ⟨O, hO⟩ : ∃ O, V i = O := ⟨_, rfl⟩
        rw [hO] at cc
        clear hO
        obtain ⟨kd, st, wy, l⟩ := O
        have o0 := cc 0 _ rfl
        have o1 := cc 1 _ rfl
        have o2 := cc 2 _ rfl
        have o3 := cc 3 _ rfl
        have o4 := cc 4 _ rfl
        have o5 := cc 5 _ rfl
        have o6 := cc 6 _ rfl
        have o7 := cc 7 _ rfl
        have o8 := cc 8 _ rfl
        have o9 := cc 9 _ rfl
        have o10 := cc 10 _ rfl
        have o11 := cc 11 _ rfl
        have o12 := cc 12 _ rfl
        have o13 := cc 13 _ rfl
        simp only [Nat.add_zero] at o0
        clear cc
        go_upto_region 9 with fail
        obtain ⟨w3, hw3⟩ : ∃ w3, w3 = wr.alloc (.cells #[.int .i64 kd, .int .i64 st, .int .i64 wy, .int .i64 l.i, .int .i64 l.a, .int .u64 (l.v : Int), .int .u64 (l.p : Int), .int .i64 l.f, .bool l.r, .bool l.q, .bool l.x, .bool l.r2, .bool l.q2, .bool l.x2] 36) := ⟨_, rfl⟩
        obtain ⟨bo, hbo⟩ : ∃ bo, bo = wr.heap.size := ⟨_, rfl⟩
        rw [← hw3, ← hbo]
        have K3 : Kp wr w3 := by rw [hw3]; exact (Kp.refl wr).alloc _
        have X3 : RX w3 bo 36 (encO ⟨kd, st, wy, l⟩) := by rw [hw3, hbo]; exact RX.made wr _ _
        have HBO : Hid (bo ≠ g ∧ bo ≠ gr) := ⟨by have := HI.out.1.tp.row.lt; omega, by have := HI.out.1.tr.row.lt; omega⟩
        have HB : Hid (BT w w3 b g br gr s k T T ∧ TI T s k ∧ RX w3 bo 36 (encO ⟨kd, st, wy, l⟩)) := ⟨HI.out.1.kp K3, HI.out.2, X3⟩
        have d0 := X3.cell (j := 0) rfl
        dsimp only at d0
        obtain ⟨t, mo, m1, m2, m3, m4, m5⟩ := place_of kd 12 (by decide)
        rw [show (((12 : Nat) : Int)) = 12 from rfl] at m1 m2 m3 m4
        have m6 : (mo : Int) < 12 := by omega
        clear hw3 hbo K3 X3 HI o0 o1 o2 o3 o4 o5 o6 o7 o8 o9 o10 o11 o12 o13
        go_upto_block 2 with fail
        clear m1 m2 m3 m4 d0
        go_cut [] (fun wx => ∃ T', Hid (BT w wx b g br gr s k T' T' ∧ TI T' s k ∧ RX wx bo 36 (encO ⟨kd, st, wy, l⟩)))
        case first =>
          by_cases h5 : mo < 5
          · have y3 : (mo : Int) < 5 := by omega
            have B4 := HB.out.1
            have X4 := HB.out.2.2
            obtain ⟨idx, hidx⟩ : ∃ idx, filI T s k l wy = idx := ⟨_, rfl⟩
            have cF := fill_any B4.tp l wy
            have cR : ∀ w', TR w' br gr s k T → Calls Try.prog 10 #[.pointer (some ⟨br, 0, none⟩), lnV l, .int .i64 wy] w' fun e w'' => e = .returned (.tuple #[lnV (T idx).l, .bool (T idx).on]) ∧ TR w'' br gr s k (updP T idx ⟨true, l⟩) ∧ Fr (· = gr) w' w'' := fun w' h => by
              have := rfill_any h l wy
              rw [HB.out.2.1.filI h.s0 h.k0, hidx, HB.out.2.1.was] at this
              exact this
            have I2 : TI (updP T idx ⟨true, l⟩) s k := by rw [← hidx]; exact HB.out.2.1.fill l wy B4.tp.k0
            rw [hidx] at cF
            obtain ⟨C, hC⟩ : ∃ C, T idx = C := ⟨_, rfl⟩
            rw [hC] at cF cR
            obtain ⟨on, m⟩ := C
            simp only [lnV] at cF cR
            have o2 := X4.cell (j := 2) rfl
            have o3 := X4.cell (j := 3) rfl
            have o4 := X4.cell (j := 4) rfl
            have o5 := X4.cell (j := 5) rfl
            have o6 := X4.cell (j := 6) rfl
            have o7 := X4.cell (j := 7) rfl
            have o8 := X4.cell (j := 8) rfl
            have o9 := X4.cell (j := 9) rfl
            have o10 := X4.cell (j := 10) rfl
            have o11 := X4.cell (j := 11) rfl
            have o12 := X4.cell (j := 12) rfl
            have o13 := X4.cell (j := 13) rfl
            have HI : Hid (TI (updP T idx ⟨true, l⟩) s k) := I2
            have HB4 : Hid (BT w w3 b g br gr s k T T ∧ RX w3 bo 36 (encO ⟨kd, st, wy, l⟩)) := ⟨B4, X4⟩
            have ng : Hid (bo ≠ g ∧ bo ≠ gr) := HBO.out
            clear B4 X4 HB hidx hC I2
            go_wp2_with fail
            with_reducible refine cF.mono ?_
            rintro e w4 ⟨rfl, T4, F4⟩
            have HB5 : Hid (BT w w4 b g br gr s k (updP T idx ⟨true, l⟩) T ∧ RX w4 bo 36 (encO ⟨kd, st, wy, l⟩)) := ⟨HB4.out.1.ps T4 F4, HB4.out.2.fr F4 ng.out.1⟩
            clear cF T4 F4 HB4 o2 o3 o4 o5 o6 o7 o8 o9 o10 o11 o12 o13
            go_upto_region 15 with fail
            obtain ⟨w5, hw5⟩ : ∃ w5, w5 = w4.alloc (.cells #[.int .i64 m.i, .int .i64 m.a, .int .u64 (m.v : Int), .int .u64 (m.p : Int), .int .i64 m.f, .bool m.r, .bool m.q, .bool m.x, .bool m.r2, .bool m.q2, .bool m.x2] 34) := ⟨_, rfl⟩
            obtain ⟨b14, hb14⟩ : ∃ b14, b14 = w4.heap.size := ⟨_, rfl⟩
            rw [← hw5, ← hb14]
            have K5 : Kp w4 w5 := by rw [hw5]; exact (Kp.refl w4).alloc _
            have Y5 : RX w5 b14 34 (encL m) := by rw [hw5, hb14]; exact RX.made w4 _ _
            have B5 := HB5.out.1.kp K5
            have X5 := HB5.out.2.kp K5
            have n14 : Hid (b14 ≠ gr) := by
              have := HB5.out.1.tr.row.lt
              show b14 ≠ gr
              omega
            have o2 := X5.cell (j := 2) rfl
            have o3 := X5.cell (j := 3) rfl
            have o4 := X5.cell (j := 4) rfl
            have o5 := X5.cell (j := 5) rfl
            have o6 := X5.cell (j := 6) rfl
            have o7 := X5.cell (j := 7) rfl
            have o8 := X5.cell (j := 8) rfl
            have o9 := X5.cell (j := 9) rfl
            have o10 := X5.cell (j := 10) rfl
            have o11 := X5.cell (j := 11) rfl
            have o12 := X5.cell (j := 12) rfl
            have o13 := X5.cell (j := 13) rfl
            have c5 := cR _ B5.tr
            have HB6 : Hid (BT w w5 b g br gr s k (updP T idx ⟨true, l⟩) T ∧ RX w5 bo 36 (encO ⟨kd, st, wy, l⟩) ∧ RX w5 b14 34 (encL m)) := ⟨B5, X5, Y5⟩
            clear hw5 hb14 K5 Y5 B5 X5 HB5 cR
            go_wp2_with fail
            with_reducible refine c5.mono ?_
            rintro e w6 ⟨rfl, T6, F6⟩
            have HB7 : Hid (BT w w6 b g br gr s k (updP T idx ⟨true, l⟩) (updP T idx ⟨true, l⟩) ∧ RX w6 bo 36 (encO ⟨kd, st, wy, l⟩) ∧ RX w6 b14 34 (encL m)) := ⟨HB6.out.1.rs T6 F6, HB6.out.2.1.fr F6 ng.out.2, HB6.out.2.2.fr F6 n14.out⟩
            clear c5 T6 F6 HB6 n14 o2 o3 o4 o5 o6 o7 o8 o9 o10 o11 o12 o13
            go_upto_region 16 with fail
            obtain ⟨w7, hw7⟩ : ∃ w7, w7 = w6.alloc (.cells #[.int .i64 m.i, .int .i64 m.a, .int .u64 (m.v : Int), .int .u64 (m.p : Int), .int .i64 m.f, .bool m.r, .bool m.q, .bool m.x, .bool m.r2, .bool m.q2, .bool m.x2] 34) := ⟨_, rfl⟩
            obtain ⟨b16, hb16⟩ : ∃ b16, b16 = w6.heap.size := ⟨_, rfl⟩
            rw [← hw7, ← hb16]
            have K7 : Kp w6 w7 := by rw [hw7]; exact (Kp.refl w6).alloc _
            have Y7 : RX w7 b16 34 (encL m) := by rw [hw7, hb16]; exact RX.made w6 _ _
            have Z7 := HB7.out.2.2.kp K7
            have x0 := Y7.cell (j := 0) rfl
            have x1 := Y7.cell (j := 1) rfl
            have x2 := Y7.cell (j := 2) rfl
            have x3 := Y7.cell (j := 3) rfl
            have x4 := Y7.cell (j := 4) rfl
            have x5 := Y7.cell (j := 5) rfl
            have x6 := Y7.cell (j := 6) rfl
            have x7 := Y7.cell (j := 7) rfl
            have x8 := Y7.cell (j := 8) rfl
            have x9 := Y7.cell (j := 9) rfl
            have x10 := Y7.cell (j := 10) rfl
            have z0 := Z7.cell (j := 0) rfl
            have z1 := Z7.cell (j := 1) rfl
            have z2 := Z7.cell (j := 2) rfl
            have z3 := Z7.cell (j := 3) rfl
            have z4 := Z7.cell (j := 4) rfl
            have z5 := Z7.cell (j := 5) rfl
            have z6 := Z7.cell (j := 6) rfl
            have z7 := Z7.cell (j := 7) rfl
            have z8 := Z7.cell (j := 8) rfl
            have z9 := Z7.cell (j := 9) rfl
            have z10 := Z7.cell (j := 10) rfl
            have q1 : ∀ w, (Op.equalIn 10000 34 (lnV m) (lnV m)).run Try.prog w = .ok true w := fun w => by rw [eq_line, samL_refl]
            simp only [lnV] at q1
            have HB8 : Hid (BT w w7 b g br gr s k (updP T idx ⟨true, l⟩) (updP T idx ⟨true, l⟩) ∧ RX w7 bo 36 (encO ⟨kd, st, wy, l⟩)) := ⟨HB7.out.1.kp K7, HB7.out.2.1.kp K7⟩
            clear hw7 hb16 K7 Y7 Z7 HB7
            cases on
            all_goals go_wp2_with fail
            all_goals go_meet
            all_goals exact ⟨_, HB8.out.1, HI.out, HB8.out.2⟩
          · by_cases h6 : mo = 5
            · subst h6
              rw [show ((5 : Nat) : Int) = 5 from rfl]
              have B4 := HB.out.1.kp (Kp.refl w3).drew
              have X4 := HB.out.2.2
              have X4d := X4.kp (Kp.refl w3).drew
              obtain ⟨ev, hev⟩ : ∃ ev, evB T s k st wy = ev := ⟨_, rfl⟩
              obtain ⟨T', hT'⟩ : ∃ T', evT T s k st wy = T' := ⟨_, rfl⟩
              have cP : Aside (∀ w', TP w' b g s k T → Calls Try.prog 11 #[.pointer (some ⟨b, 0, none⟩), .int .i64 st, .int .i64 wy] w' fun e w'' => e = .returned (.bool ev) ∧ TP w'' b g s k T' ∧ Fr (· = g) w' w'') := fun w' h => by rw [← hev, ← hT']; exact evict_any h st wy
              have cR : Aside (∀ w', TR w' br gr s k T → Calls Try.prog 12 #[.pointer (some ⟨br, 0, none⟩), .int .i64 st, .int .i64 wy] w' fun e w'' => e = .returned (.bool ev) ∧ TR w'' br gr s k T' ∧ Fr (· = gr) w' w'') := fun w' h => by rw [← hev, ← hT']; exact revict_any h st wy
              have HI : Hid (TI T' s k) := by rw [← hT']; exact HB.out.2.1.ev st wy
              have o1 := X4.cell (j := 1) rfl
              have o2 := X4.cell (j := 2) rfl
              have ng := HBO.out
              clear HB X4 hev hT'
              go_upto_region 19 with fail
              go_region_held3 (fun v => v.cell? ⟨bo, 1, none⟩ = some (.int .i64 st) ∧ v.cell? ⟨bo, 2, none⟩ = some (.int .i64 wy))
                (first | go_keep | exact ⟨X6.cell (j := 1) rfl, X6.cell (j := 2) rfl⟩ | exact ⟨X5.cell (j := 1) rfl, X5.cell (j := 2) rfl⟩)
                (first | (go_at_call 11; with_reducible refine (cP.out _ B4.tp).mono ?_; rintro e w5 ⟨rfl, T5, F5⟩; have B5 := B4.ps T5 F5; have X5 := X4d.fr F5 ng.1) | (go_at_call 12; with_reducible refine (cR.out _ B5.tr).mono ?_; rintro e w6 ⟨rfl, T6, F6⟩; have B6 := B5.rs T6 F6; have X6 := X5.fr F6 ng.2))
              have HB8 : Hid (BT w w6 b g br gr s k T' T' ∧ RX w6 bo 36 (encO ⟨kd, st, wy, l⟩)) := ⟨B6, X6⟩
              clear cP cR B4 X4d T5 F5 B5 X5 T6 F6 B6 X6 o1 o2 ng
              cases ev
              all_goals go_wp2_with fail
              all_goals go_meet
              all_goals exact ⟨_, HB8.out.1, HI.out, HB8.out.2⟩
            · skip
              have X4 := HB.out.2.2
              have cL := llose_any HB.out.1 (mo : Int) l (by omega) (by omega)
              obtain ⟨nl, hnl⟩ : ∃ nl, losN T (prK (mo : Int) l) (s * k) = nl := ⟨_, rfl⟩
              obtain ⟨T', hT'⟩ : ∃ T', losT T (prK (mo : Int) l) (s * k) = T' := ⟨_, rfl⟩
              rw [hnl, hT'] at cL
              have HI : Hid (TI T' s k) := by rw [← hT']; exact HB.out.2.1.los _ _
              simp only [lnV] at cL
              have o3 := X4.cell (j := 3) rfl
              have o4 := X4.cell (j := 4) rfl
              have o5 := X4.cell (j := 5) rfl
              have o6 := X4.cell (j := 6) rfl
              have o7 := X4.cell (j := 7) rfl
              have o8 := X4.cell (j := 8) rfl
              have o9 := X4.cell (j := 9) rfl
              have o10 := X4.cell (j := 10) rfl
              have o11 := X4.cell (j := 11) rfl
              have o12 := X4.cell (j := 12) rfl
              have o13 := X4.cell (j := 13) rfl
              have y7 : ¬ (mo : Int) < 5 := by omega
              have y8 : ((mo : Int) == 5) = false := by rw [beq_eq_false_iff_ne]; omega
              have HX : Hid (RX w3 bo 36 (encO ⟨kd, st, wy, l⟩)) := X4
              clear X4 HB hnl hT'
              go_wp2_with fail
              with_reducible refine cL.mono ?_
              rintro e w4 ⟨rfl, B4, F4⟩
              have HB8 : Hid (BT w w4 b g br gr s k T' T' ∧ RX w4 bo 36 (encO ⟨kd, st, wy, l⟩)) := ⟨B4, HX.out.fr F4 (by have := HBO.out; omega)⟩
              have y9 : ((nl : Int) == (nl : Int)) = true := by simp
              clear cL B4 F4 o3 o4 o5 o6 o7 o8 o9 o10 o11 o12 o13
              go_wp2_with fail
              go_meet
              case rel => exact ⟨_, HB8.out.1, HI.out, HB8.out.2⟩
        case rest =>
          obtain ⟨T', HB⟩ := hcut
          have X4 := HB.out.2.2
          have hs := HB.out.1.tp.s0
          have hk := HB.out.1.tp.k0
          obtain ⟨fl, hfl⟩ : ∃ fl, fndL T' s k l.i l.a l.v = fl := ⟨_, rfl⟩
          obtain ⟨fb, hfb⟩ : ∃ fb, fndB T' s k l.i l.a l.v = fb := ⟨_, rfl⟩
          have cP := find_any HB.out.1.tp l.i l.a l.v
          rw [hfl, hfb] at cP
          have cR : ∀ w', TR w' br gr s k T' → Calls Try.prog 15 #[.pointer (some ⟨br, 0, none⟩), .int .i64 l.i, .int .i64 l.a, .int .u64 (l.v : Int)] w' fun e w'' => e = .returned (.tuple #[lnV fl, .bool fb]) ∧ Kp w' w'' := fun w' h => by
            have := rfind_any h l.i l.a l.v
            rw [(HB.out.2.1.find hs hk l.i l.a l.v).1, (HB.out.2.1.find hs hk l.i l.a l.v).2, hfl, hfb] at this
            exact this
          simp only [lnV] at cP cR
          have o3 := X4.cell (j := 3) rfl
          have o4 := X4.cell (j := 4) rfl
          have o5 := X4.cell (j := 5) rfl
          have HX : Hid (BT w wc b g br gr s k T' T' ∧ RX wc bo 36 (encO ⟨kd, st, wy, l⟩) ∧ TI T' s k) := ⟨HB.out.1, X4, HB.out.2.1⟩
          clear X4 HB hfl hfb hs hk
          go_wp2_with fail
          with_reducible refine cP.mono ?_
          rintro e w4 ⟨rfl, K4⟩
          have HX4 : Hid (BT w w4 b g br gr s k T' T' ∧ RX w4 bo 36 (encO ⟨kd, st, wy, l⟩) ∧ TI T' s k) := ⟨HX.out.1.kp K4, HX.out.2.1.kp K4, HX.out.2.2⟩
          clear HX K4 cP o3 o4 o5
          go_upto_region 22 with fail
          obtain ⟨w5, hw5⟩ : ∃ w5, w5 = w4.alloc (.cells #[.int .i64 fl.i, .int .i64 fl.a, .int .u64 (fl.v : Int), .int .u64 (fl.p : Int), .int .i64 fl.f, .bool fl.r, .bool fl.q, .bool fl.x, .bool fl.r2, .bool fl.q2, .bool fl.x2] 34) := ⟨_, rfl⟩
          obtain ⟨b20, hb20⟩ : ∃ b20, b20 = w4.heap.size := ⟨_, rfl⟩
          rw [← hw5, ← hb20]
          have K5 : Kp w4 w5 := by rw [hw5]; exact (Kp.refl w4).alloc _
          have Y5 : RX w5 b20 34 (encL fl) := by rw [hw5, hb20]; exact RX.made w4 _ _
          have X5 := HX4.out.2.1.kp K5
          have o3 := X5.cell (j := 3) rfl
          have o4 := X5.cell (j := 4) rfl
          have o5 := X5.cell (j := 5) rfl
          have c5 := cR _ (HX4.out.1.kp K5).tr
          have HX5 : Hid (BT w w5 b g br gr s k T' T' ∧ RX w5 b20 34 (encL fl) ∧ TI T' s k) := ⟨HX4.out.1.kp K5, Y5, HX4.out.2.2⟩
          clear hw5 hb20 K5 Y5 X5 HX4 cR
          go_wp2_with fail
          with_reducible refine c5.mono ?_
          rintro e w6 ⟨rfl, K6⟩
          have HX6 : Hid (BT w w6 b g br gr s k T' T' ∧ RX w6 b20 34 (encL fl) ∧ TI T' s k) := ⟨HX5.out.1.kp K6, HX5.out.2.1.kp K6, HX5.out.2.2⟩
          clear HX5 K6 c5 o3 o4 o5
          go_upto_region 23 with fail
          obtain ⟨w7, hw7⟩ : ∃ w7, w7 = w6.alloc (.cells #[.int .i64 fl.i, .int .i64 fl.a, .int .u64 (fl.v : Int), .int .u64 (fl.p : Int), .int .i64 fl.f, .bool fl.r, .bool fl.q, .bool fl.x, .bool fl.r2, .bool fl.q2, .bool fl.x2] 34) := ⟨_, rfl⟩
          obtain ⟨b22, hb22⟩ : ∃ b22, b22 = w6.heap.size := ⟨_, rfl⟩
          rw [← hw7, ← hb22]
          have K7 : Kp w6 w7 := by rw [hw7]; exact (Kp.refl w6).alloc _
          have Y7 : RX w7 b22 34 (encL fl) := by rw [hw7, hb22]; exact RX.made w6 _ _
          have Z7 := HX6.out.2.1.kp K7
          have x0 := Y7.cell (j := 0) rfl
          have x1 := Y7.cell (j := 1) rfl
          have x2 := Y7.cell (j := 2) rfl
          have x3 := Y7.cell (j := 3) rfl
          have x4 := Y7.cell (j := 4) rfl
          have x5 := Y7.cell (j := 5) rfl
          have x6 := Y7.cell (j := 6) rfl
          have x7 := Y7.cell (j := 7) rfl
          have x8 := Y7.cell (j := 8) rfl
          have x9 := Y7.cell (j := 9) rfl
          have x10 := Y7.cell (j := 10) rfl
          have z0 := Z7.cell (j := 0) rfl
          have z1 := Z7.cell (j := 1) rfl
          have z2 := Z7.cell (j := 2) rfl
          have z3 := Z7.cell (j := 3) rfl
          have z4 := Z7.cell (j := 4) rfl
          have z5 := Z7.cell (j := 5) rfl
          have z6 := Z7.cell (j := 6) rfl
          have z7 := Z7.cell (j := 7) rfl
          have z8 := Z7.cell (j := 8) rfl
          have z9 := Z7.cell (j := 9) rfl
          have z10 := Z7.cell (j := 10) rfl
          have q1 : ∀ w, (Op.equalIn 10000 34 (lnV fl) (lnV fl)).run Try.prog w = .ok true w := fun w => by rw [eq_line, samL_refl]
          simp only [lnV] at q1
          have cL := list_any (HX6.out.1.kp K7).tp
          have HX7 : Hid (BT w w7 b g br gr s k T' T' ∧ TI T' s k) := ⟨HX6.out.1.kp K7, HX6.out.2.2⟩
          have q2 : (fb != fb) = false := by cases fb <;> rfl
          have q3 : (fb == fb) = true := by cases fb <;> rfl
          clear hw7 hb22 K7 Y7 Z7 HX6
          go_wp2_with fail
          with_reducible refine cL.mono ?_
          rintro e w8 ⟨⟨v8, rfl, L8⟩, K8⟩
          have c8 := rlist_any (HX7.out.1.kp K8).tr
          have HX8 : Hid (BT w w8 b g br gr s k T' T' ∧ TI T' s k ∧ LL w8 w7.heap.size v8 (lsT T' (s * k))) := ⟨HX7.out.1.kp K8, HX7.out.2, L8⟩
          clear cL L8 K8 HX7 x0 x1 x2 x3 x4 x5 x6 x7 x8 x9 x10 z0 z1 z2 z3 z4 z5 z6 z7 z8 z9 z10 q1
          go_wp2_with fail
          with_reducible refine c8.mono ?_
          rintro e w9 ⟨⟨v9, rfl, L9⟩, K9⟩
          have c9 := lines_same (HX8.out.2.2.kp K9) L9 (Nat.le_trans (lsT_len _ _) (Nat.le_trans HX8.out.1.tp.n1 (by decide)))
          have HX9 : Hid (BT w w9 b g br gr s k T' T' ∧ TI T' s k) := ⟨HX8.out.1.kp K9, HX8.out.2.1⟩
          clear c8 L9 K9 HX8
          go_wp2_with fail
          with_reducible refine c9.mono ?_
          rintro e w10 ⟨rfl, D10⟩
          have HX10 : Hid (BT w w10 b g br gr s k T' T' ∧ TI T' s k) := ⟨HX9.out.1.kp D10.kp, HX9.out.2⟩
          clear c9 D10 HX9
          go_wp2_with fail
          go_roundg (81 - (i + 1))
          case measure => omega
          case rel => exact ⟨i + 1, T', by go_num, by omega, by omega, HX10⟩
      · by_cases hm : i < mc
        · have ei : i = 80 := by omega
          subst ei
          have y1 : (80 : Int) < mc := by omega
          rw [show ((80 : Nat) : Int) = 80 from rfl]
          have HK : Hid (Kp w wr) := HI.out.1.k
          go_wp2_with fail
          go_meet
          case rel => exact HK
        · have y1 : ¬ (i : Int) < mc := by omega
          have HK : Hid (Kp w wr) := HI.out.1.k
          go_wp2_with fail
          go_meet
          case rel => exact HK
  case rest =>
    go_wp2_with fail
    with_reducible refine (cT _).mono ?_
    rintro e w5 ⟨rfl, K5⟩
    have HK : Hid (Kp w w5) := hcut.out.trans K5
    clear K5 cT hcut
    go_wp2
    go_ret
    exact ⟨rfl, HK.out⟩

theorem plays15_any (s k : Int) (na : Option Addr) (mc cap : Nat) (V : Nat → OV) (w : World) (hO : OW w na mc V) (hm : mc ≤ maxLen) :
    Calls Try.prog 3 #[.int .i64 s, .int .i64 k, .slice na mc cap] w fun e w' => e = .returned (.bool true) ∧ Kp w w' := by
  by_cases hp : pwB s = true ∧ 1 ≤ k ∧ k ≤ 8
  · obtain ⟨h1, h2, h3⟩ := hp
    have := pw_range h1
    obtain ⟨s', rfl⟩ : ∃ s' : Nat, s = (s' : Int) := ⟨s.toNat, by omega⟩
    obtain ⟨k', rfl⟩ : ∃ k' : Nat, k = (k' : Int) := ⟨k.toNat, by omega⟩
    exact plays15_ok s' k' na mc cap V w hO h1 (by omega) (by omega)
  · exact plays15_no s k na mc cap w hp hm

end Go.Proofs.Ytheahkfgmbmdcaa
