/- TableKeeps: the walk. -/
import Derived.Test.YtcankhnnikhblaaGreatDoorR43
namespace Go.Proofs.YtcankhnnikhblaaGreatDoor
open Go.RowKit
set_option maxRecDepth 10000

set_option maxHeartbeats 16000000 in
theorem keeps_walk (a0 a1 a4 : Int) (first d1 kk fr sf : Nat) (na : Option Addr) (m cap : Nat) (f : Nat → Int) (r q x : Bool) (w : World) (NI : NSK .i64 w na m f) (T : TAB w)
    (e1 : bits .and .u64 a0 268434944 = (first : Int)) (h1 : first % 512 = 0) (h2 : first < 268435456)
    (e2 : bits .and .i64 a1 1 = (d1 : Int)) (e3 : 1 + (d1 : Int) = (kk : Int)) (e4 : 512 * (kk : Int) = (fr : Int)) (h3 : fr = 512 ∨ fr = 1024)
    (e5 : bits .and .i64 a4 15 = (sf : Int)) (h4 : sf ≤ 15) :
    Calls Tryz.prog 5 #[.int .u64 a0, .int .i64 a1, .slice na m cap, .agg #[.bool r, .bool q, .bool x], .int .i64 a4] w fun e w' => e = .returned (.bool true) ∧ Kp w w' := by
  have k1 := begun_any 20 (w.alloc (.cells #[.bool r, .bool q, .bool x] 39)) (T.kp ((Kp.refl w).alloc _)) (by omega) (by omega)
  rw [show ((20 : Nat) : Int) = 20 from rfl] at k1
  have q3 : ∀ p (w : World), (binOp .eql 27 (.pointer (some ⟨p, 0, none⟩)) (.pointer none)).run Tryz.prog w = .ok (.bool false) w := fun p w => by kernel_rfl
  have HN : Hid (NSK .i64 w na m f ∧ TAB w ∧ first % 512 = 0 ∧ first < 268435456 ∧ (fr = 512 ∨ fr = 1024) ∧ sf ≤ 15) := ⟨NI, T, h1, h2, h3, h4⟩
  have z1 : (d1 : Int) ≤ 1 := by omega
  have z2 : (kk : Int) ≤ 2 := by omega
  clear NI T h1 h2 h3 h4
  go_enter Tryz.func5, Tryz.ntmps5
  go_wp2_with fail
  with_reducible refine k1.mono ?_
  rintro e w1 ⟨pm, p, M, rfl, f1⟩
  have P1 := (PX.made w r q x).kp f1.kp
  have f2 : FW w (fun i => i = w.heap.size) w1 p pm 2100 20 0 M (fun _ => 0) := f1.base ((Kp.refl w).alloc _) HN.out.2.1 (fun i hi => .inr (by simp; omega))
  obtain ⟨y, hy⟩ := tk_there (F := fT 20 (fun _ => 0)) (hi := 20) (by rw [cntT_all]; omega)
  have HC : Hid (cnt (fT 20 (putC (fun _ => 0) y 1)) 20 = 19) := by have := cnt_take (C := fun _ => 0) hy.free.1 rfl; rw [cntT_all] at this; show _ = _; omega
  have k2 := tnew_ok (Z := fun _ => false) f2 y hy (fun x => ⟨(fun c => by cases c), fun c => absurd rfl c⟩)
  have HP : Hid (PX w1 w.heap.size r q x) := P1
  clear k1 f1 f2 hy P1
  obtain ⟨bP, hbP⟩ : ∃ bP, bP = w.heap.size := ⟨_, rfl⟩
  rw [← hbP] at k2 HP ⊢
  have HbP : Hid (bP = w.heap.size) := hbP
  clear hbP
  go_wp2_with fail
  with_reducible refine k2.mono ?_
  rintro e w3 ⟨⟨bt, rfl, t3, hbt⟩, r3⟩
  have P3 := HP.out.frO r3 rfl
  have kR := right_any r q x w3
  have H3 : Hid (TS w (fun i => i = bP ∨ i = bt) w3 bt p pm 2100 20 0 (zerM M y) (putC (fun _ => 0) y 1) (fun _ => false) y eN ∧ PX w3 bP r q x ∧ w.heap.size ≤ bP ∧ bt ≠ bP) := ⟨t3, P3, by have := HbP.out; omega, by have := HP.out.lt; omega⟩
  have p0 := P3.c0
  have p1 := P3.c1
  have p2 := P3.c2
  have hq : (q && r) = true → r = true := by cases q <;> simp
  generalize (q && r) = q' at *
  have HQ : Hid (q' = true → r = true) := hq
  clear k2 t3 r3 HP P3 hbt hq HbP
  go_wp2_with fail
  with_reducible refine kR.mono ?_
  rintro e w4 ⟨rfl, K4⟩
  have P4 := H3.out.2.1.kp K4
  have f0 := P4.fz 0
  have f1 := P4.fz 1
  have f2 := P4.fz 2
  have p0 := P4.c0
  have p1 := P4.c1
  have p2 := P4.c2
  have t4 := H3.out.1.kps K4
  have H4 := H3.out
  have k5 : Fr (· = bP) w4 (putP w4 bP r q' x) := Fr.putP (S := (· = bP)) (Fr.refl _ w4) rfl r q' x
  have t5 := t4.frX k5 (fun i hi => ⟨by have := H4.2.2.1; omega, .inl hi⟩) H4.2.2.2
  have P5 := P4.put r q' x
  have k6 : Kp (putP w4 bP r q' x) ((putP w4 bP r q' x).alloc (.cells #[.bool true, .bool false, .bool (!x)] 39)) := (Kp.refl _).alloc _
  have s5 : (putP w4 bP r q' x).heap.size = w4.heap.size := by unfold putP; simp
  have t6 := t5.more k6 w4.heap.size (by omega) (by simp [s5])
  have P6 := P5.kp k6
  have Q6 : PX ((putP w4 bP r q' x).alloc (.cells #[.bool true, .bool false, .bool (!x)] 39)) w4.heap.size true false (!x) := by rw [← s5]; exact heap_alloc_new _ _
  have kM := mapb_any t6 (NE.made y) first (fr : Int) r q' x (sf : Int) (by omega)
  have Kk : Kc r q' fr sf (first / 512) := ⟨HN.out.2.2.2.2.1, HN.out.2.2.2.2.2, HQ.out, by have := HN.out.2.2.2.1; omega⟩
  have eR : mapbR 2100 20 (putC (fun _ => 0) y 1) eN first (fr : Int) r q' (sf : Int) = 0 := by
    have hh := HN.out.2.2
    unfold mapbR plR
    rw [if_neg (by unfold hasN; simp; omega), if_neg (by rw [(kc_ok (x := x) Kk).2.1]; decide), if_neg (by omega), enG_eN, lvG_eN, if_neg (by simp [dN]), if_neg (by have := HC.out; omega)]
  rw [eR] at kM
  have KM : Aside (Calls Tryz.prog 24 #[.pointer (some ⟨bt, 0, none⟩), .int .u64 (first : Int), .int .i64 (fr : Int), .agg #[.bool r, .bool q', .bool x], .int .i64 (sf : Int)] ((putP w4 bP r q' x).alloc (.cells #[.bool true, .bool false, .bool (!x)] 39)) fun e w' => e = .returned (.int .i64 0) ∧ Hid (SW w (fun i => (i = bP ∨ i = bt) ∨ i = w4.heap.size) w' bt p pm y bP w4.heap.size r q' x fr sf (first / 512) 100)) := kM.mono (by
    rintro e w' ⟨rfl, C', E', ⟨⟨M', t', _⟩, ne', f'⟩, _, b⟩
    obtain ⟨c2, l2⟩ := b rfl
    rw [Int.toNat_natCast] at l2
    refine ⟨rfl, M', C', E', ⟨t'.le (by omega), ne', P6.frO f' (.inl (.inl rfl)), Q6.frO f' (.inr rfl), .inl (.inl rfl), .inr rfl⟩, fun a b' ha => ?_, ?_⟩
    · rw [l2 a b' ha]; rfl
    · rw [lvG_eN] at c2
      have := HC.out
      omega)
  have n0 := P6.c0
  have n1 := P6.c1
  have n2 := P6.c2
  have m0 := Q6.c0
  simp only [putP] at n0 n1 n2 KM
  have HK : Hid (Kc r q' fr sf (first / 512) ∧ first % 512 = 0 ∧ first < 268435456) := ⟨Kk, HN.out.2.2.1, HN.out.2.2.2.1⟩
  have HT : Hid (NSK .i64 w na m f ∧ TAB w) := ⟨HN.out.1, HN.out.2.1⟩
  clear kR K4 H3 P4 t4 H4 k5 t5 P5 k6 s5 t6 P6 Q6 kM Kk eR HN HQ HC m0 e1 e2 e3 e4 z1 z2
  generalize hX : (fun i => (i = bP ∨ i = bt) ∨ i = w4.heap.size) = X at *
  clear hX
  go_wp2_with fail
  with_reducible refine KM.out.mono ?_
  rintro e w6 ⟨rfl, H6⟩
  generalize w4.heap.size = bQ at *
  clear KM n0 n1 n2 f0 f1 f2 p0 p1 p2 e5
  have kT := kj_tables2 H6.out
  go_wp2_with fail
  with_reducible refine kT.mono ?_
  rintro e w7 ⟨rfl, s7, _⟩
  have H7 : Hid (SW w X w7 bt p pm y bP bQ r q' x fr sf (first / 512) 100) := s7
  clear kT s7 H6
  go_wp2_with fail
  go_loopg [20] 21 (fun g v20 wr => ∃ i : Nat, v20 = .int .i64 (i : Int) ∧ i ≤ 20 ∧ i ≤ m ∧ 21 - i ≤ g ∧ Hid (S0 w X wr bt p pm y bP bQ r q' x fr sf (first / 512) (100 + i * 1100) ∧ (i = 0 → SW w X wr bt p pm y bP bQ r q' x fr sf (first / 512) 100) ∧ (i ≠ 0 → SP w X wr bt p pm y bP bQ r q' x fr sf (first / 512) (100 + i * 1100))))
  case atStart => exact ⟨0, rfl, by omega, by omega, by omega, H7.out.s0, fun _ => H7.out, fun c => absurd rfl c⟩
  case round =>
    clear H7
    obtain ⟨i, rfl, hi, him, hg, HI⟩ := hrel
    by_cases ei : i < m ∧ i < 20
    · obtain ⟨⟨b0, o0, rfl, hbl, hcell⟩, hwf⟩ := HT.out.1 i ei.1
      obtain ⟨P1, P2, kw⟩ := HI.out.1.pp
      have cu : wr.cell? ⟨b0, o0 + i, none⟩ = some (.int .i64 (f i)) := by rw [Kp.cell kw (p := ⟨b0, o0 + i, none⟩) hbl]; exact hcell
      obtain ⟨d, hd, hd2⟩ := and_lim (f i) 511 (by decide)
      rw [show ((511 : Nat) : Int) = 511 from rfl] at hd
      generalize f i = fi at *
      obtain ⟨xp, hxp⟩ : ∃ xp, xp = first + d := ⟨_, rfl⟩
      obtain ⟨gx, hgx⟩ : ∃ gx, gx = fr + d := ⟨_, rfl⟩
      have hx : xp / 512 = first / 512 ∧ xp < 268435456 ∧ xp % 512 = d := by have := HK.out.2; omega
      have kP := kj_protect HI.out.1 HK.out.1 hx.1 hx.2.1 (by omega)
      have q0 := P2.c0
      have q1 := P2.c1
      have q2 := P2.c2
      have y1 : (i : Int) < m := by omega
      have y2 : (i : Int) < 20 := by omega
      have z1 : (d : Int) ≤ 511 := by omega
      have z2 : (first : Int) + (d : Int) = (xp : Int) := by omega
      have z3 : (xp : Int) ≤ 268435455 := by omega
      have z4 : (fr : Int) + (d : Int) = (gx : Int) := by omega
      have z5 : (gx : Int) ≤ 2000 := by have := HK.out.1.fr; omega
      have HX : Hid ((xp / 512 = first / 512 ∧ xp < 268435456 ∧ xp % 512 = d) ∧ gx = fr + d ∧ i < 20 ∧ b0 < w.heap.size ∧ w.cell? ⟨b0, o0 + i, none⟩ = some (.int .i64 fi) ∧ Kp w wr) := ⟨hx, hgx, ei.2, hbl, hcell, kw⟩
      clear hcell hwf hbl P1 P2 kw hd2 hxp hgx hx HI ei
      go_wp2_with fail
      with_reducible refine kP.mono ?_
      rintro e w1 ⟨rfl, s1⟩
      have kJ := kj_nojoin s1 HX.out.1.1 HX.out.1.2.1 (by have := HX.out.2.2.1; omega)
      clear kP s1 q0 q1 q2 cu
      go_wp2_with fail
      with_reducible refine kJ.mono ?_
      rintro e w2 ⟨rfl, s2⟩
      have kU := kj_unmap s2 HX.out.1.2.1 (by have := HX.out.2.2.1; omega)
      have eg : fr + xp % 512 = gx := by have := HX.out; omega
      rw [eg] at kU
      have HG : Hid (fr + xp % 512 = gx) := eg
      clear kJ s2 eg
      go_wp2_with fail
      with_reducible refine kU.mono ?_
      rintro e w3 ⟨rfl, s3⟩
      have cu : w3.cell? ⟨b0, o0 + i, none⟩ = some (.int .i64 fi) := by
        have h := HX.out.2.2.2
        rw [Kp.cell s3.pp.2 (p := ⟨b0, o0 + i, none⟩) h.1]; exact h.2.1
      have kN := kj_need s3 HX.out.1.1 HX.out.1.2.1 (by have := HX.out.2.2.1; omega)
      clear kU s3
      go_wp2_with fail
      with_reducible refine kN.mono ?_
      rintro e w4 ⟨rfl, s4⟩
      have kM := kj_map s4 HK.out.1 HX.out.1.1 HX.out.1.2.1 (by have := HX.out.2.2.1; omega)
      rw [HG.out] at kM
      have p0 := s4.pp.1.c0
      have p1 := s4.pp.1.c1
      have p2 := s4.pp.1.c2
      clear kN s4 cu
      go_wp2_with fail
      with_reducible refine kM.mono ?_
      rintro e w5 ⟨rfl, s5⟩
      have H5 : Hid (SP w X w5 bt p pm y bP bQ r q' x fr sf (first / 512) (100 + (i + 1) * 1100)) := s5.le (by omega)
      clear kM s5 p0 p1 p2
      go_wp2_with fail
      go_roundg (21 - (i + 1))
      case measure => omega
      case rel => exact ⟨i + 1, by go_num, by have := HX.out.2.2.1; omega, by omega, by omega, H5.out.s0, fun c => by omega, fun _ => H5.out⟩
    · obtain ⟨f511, h511⟩ : ∃ f511, f511 = first + 511 := ⟨_, rfl⟩
      obtain ⟨f3, h33⟩ : ∃ f3, f3 = first + 3 := ⟨_, rfl⟩
      obtain ⟨g511, hg5⟩ : ∃ g511, g511 = fr + 511 := ⟨_, rfl⟩
      have z1 : (first : Int) + 511 = (f511 : Int) := by omega
      have z2 : (first : Int) + 3 = (f3 : Int) := by omega
      have z3 : (fr : Int) + 511 = (g511 : Int) := by omega
      have z4 : (f511 : Int) ≤ 268435455 := by have := HK.out.2; omega
      have z5 : (f3 : Int) ≤ 268435455 := by have := HK.out.2; omega
      have z6 : (g511 : Int) ≤ 2000 := by have := HK.out.1.fr; omega
      have hE : f511 / 512 = first / 512 ∧ f511 < 268435456 ∧ f511 % 512 = 511 ∧ fr + f511 % 512 = g511 ∧ f3 / 512 = first / 512 ∧ f3 < 268435456 ∧ first / 512 * 512 = first := by have := HK.out.2; omega
      have HE : Hid (f511 / 512 = first / 512 ∧ f511 < 268435456 ∧ f511 % 512 = 511 ∧ fr + f511 % 512 = g511 ∧ f3 / 512 = first / 512 ∧ f3 < 268435456 ∧ first / 512 * 512 = first) := hE
      clear hE
      clear h511 h33 hg5
      have hor : (m = 0 ∧ i = 0) ∨ (0 < m ∧ i = m) ∨ (i < m ∧ i = 20) := by omega
      clear ei hg him
      rcases hor with ⟨rfl, rfl⟩ | ⟨hm, rfl⟩ | ⟨hm, rfl⟩
      · obtain ⟨f7, h7⟩ : ∃ f7, f7 = first + 7 := ⟨_, rfl⟩
        have z7 : (first : Int) + 7 = (f7 : Int) := by omega
        have z8 : (f7 : Int) ≤ 268435455 := by have := HK.out.2; omega
        have kS := kj_split (HI.out.2.1 rfl) (page := f7) (by have := HK.out.2; omega) (by have := HK.out.2; omega) (by omega)
        clear HI h7
        rw [show ((0 : Nat) : Int) = 0 from rfl]
        go_wp2_with fail
        with_reducible refine kS.mono ?_
        rintro e wt ⟨rfl, st⟩
        have HS : Hid (SP w X wt bt p pm y bP bQ r q' x fr sf (first / 512) 30000) := st.le (by omega)
        clear kS st z7 z8
        have kG := kj_get HS.out HE.out.1 HE.out.2.1 (by omega)
        rw [HE.out.2.2.2.1] at kG
        go_wp2_with fail
        with_reducible refine kG.mono ?_
        rintro e w2 ⟨rfl, s2⟩
        have k3 : Kp w2 (w2.alloc (.cells #[.int .u64 (f511 : Int), .int .i64 (g511 : Int), .bool r, .bool q', .bool x, .int .i64 (sf : Int), .int .i64 3] 58)) := (Kp.refl w2).alloc _
        have s3 := s2.more k3 w2.heap.size (by omega) (by simp)
        have L3 : LB (w2.alloc (.cells #[.int .u64 (f511 : Int), .int .i64 (g511 : Int), .bool r, .bool q', .bool x, .int .i64 (sf : Int), .int .i64 3] 58)) w2.heap.size ⟨f511, g511, r, q', x, (sf : Int), 3⟩ := by exact LB.made w2 ⟨f511, g511, r, q', x, (sf : Int), 3⟩
        have kT := kj_tables s3
        have v1 := L3.c1
        have v6 := L3.c6
        simp only at v1 v6
        rw [show ((3 : Nat) : Int) = 3 from rfl] at v6
        have H3 : Hid (LB (w2.alloc (.cells #[.int .u64 (f511 : Int), .int .i64 (g511 : Int), .bool r, .bool q', .bool x, .int .i64 (sf : Int), .int .i64 3] 58)) w2.heap.size ⟨f511, g511, r, q', x, (sf : Int), 3⟩ ∧ w.heap.size ≤ w2.heap.size ∧ bt ≠ w2.heap.size ∧ bP ≠ w2.heap.size ∧ bQ ≠ w2.heap.size) := ⟨L3, by have := s2.lt; have := s2.lt.2.2.2.size; omega, by have := s2.lt; omega, by have := s2.lt; omega, by have := s2.lt; omega⟩
        clear kG s2 k3 s3 L3 HS
        go_wp2_with fail
        with_reducible refine kT.mono ?_
        rintro e w4 ⟨rfl, s4, k4⟩
        have kJ := kj_join s4 HK.out.1 HE.out.2.2.2.2.1 HE.out.2.2.2.2.2.1 (by omega)
        have H4 : Hid (LB w4 w2.heap.size ⟨f511, g511, r, q', x, (sf : Int), 3⟩) := H3.out.1.kp k4
        have HB : Hid (w.heap.size ≤ w2.heap.size ∧ bt ≠ w2.heap.size ∧ bP ≠ w2.heap.size ∧ bQ ≠ w2.heap.size) := H3.out.2
        clear kT s4 k4 H3 v1 v6
        generalize w2.heap.size = bL at *
        go_wp2_with fail
        with_reducible refine kJ.mono ?_
        rintro e w5 ⟨rfl, s5, r5⟩
        have kG := kj_get2 s5 HE.out.1 HE.out.2.1 (by omega)
        rw [HE.out.2.2.2.1] at kG
        have H5 : Hid (LB w5 bL ⟨f511, g511, r, q', x, (sf : Int), 3⟩) := H4.out.frO r5 (.inr rfl)
        clear kJ s5 r5 H4
        go_wp2_with fail
        with_reducible refine kG.mono ?_
        rintro e w6 ⟨rfl, s6, r6⟩
        have L6 := H5.out.frO r6 (.inr rfl)
        have zf0 := L6.fz 0
        have zf1 := L6.fz 1
        have zf2 := L6.fz 2
        have zf3 := L6.fz 3
        have zf4 := L6.fz 4
        have zf5 := L6.fz 5
        have zf6 := L6.fz 6
        have t0 := L6.c0
        have t1 := L6.c1
        have t2 := L6.c2
        have t3 := L6.c3
        have t4 := L6.c4
        have t5 := L6.c5
        have t6 := L6.c6
        have L7 := L6.put ⟨f511, g511, r, q', x, (sf : Int), 2⟩
        have k7 := Fr.putL (S := (· = bL)) (Fr.refl _ w6) rfl ⟨f511, g511, r, q', x, (sf : Int), 2⟩
        have s7 := s6.frX k7 (fun i hi => ⟨by have := HB.out.1; omega, .inr hi⟩) HB.out.2.1 HB.out.2.2.1 HB.out.2.2.2
        have kL := kj_leaves s7
        have H7 : Hid (LB (putL w6 bL ⟨f511, g511, r, q', x, (sf : Int), 2⟩) bL ⟨f511, g511, r, q', x, (sf : Int), 2⟩) := L7
        simp only [putL] at kL
        rw [show ((2 : Nat) : Int) = 2 from rfl] at kL
        clear kG s6 r6 H5 L6 L7 k7 s7
        go_wp2_with fail
        with_reducible refine kL.mono ?_
        rintro e w8 ⟨⟨g, cap, rfl, cg, hgl⟩, s8, k8⟩
        have kt := told_any w8 (HT.out.2.kp s8.s0.pp.2.2)
        have H8 : Hid (SW w (fun i => X i ∨ i = bL) w8 bt p pm y bP bQ r q' x fr sf (first / 512) (30000 + 4 + 5 + 4) ∧ LB w8 bL ⟨f511, g511, r, q', x, (sf : Int), 2⟩ ∧ w8.cell? ⟨g, 0, none⟩ = some (.int .u64 (first : Int)) ∧ g < w8.heap.size) := ⟨s8, H7.out.kp k8, by rw [cg, HE.out.2.2.2.2.2.2], hgl⟩
        clear kL cg hgl s8 k8 H7 zf0 zf1 zf2 zf3 zf4 zf5 zf6 t0 t1 t2 t3 t4 t5 t6
        go_wp2_with fail
        with_reducible refine kt.mono ?_
        rintro e w9 ⟨rfl, k9⟩
        have L9 := H8.out.2.1.kp k9
        have s9 := H8.out.1.kps k9
        have P9 := s9.s0.pp.1
        have kT := kj_tables2 s9
        have H9 : Hid (w9.cell? ⟨g, 0, none⟩ = some (.int .u64 (first : Int)) ∧ g < w9.heap.size) := ⟨by rw [Kp.cell k9 (p := ⟨g, 0, none⟩) H8.out.2.2.2]; exact H8.out.2.2.1, Nat.lt_of_lt_of_le H8.out.2.2.2 k9.size⟩
        have t0 := L9.c0
        have t1 := L9.c1
        have t2 := L9.c2
        have t3 := L9.c3
        have t4 := L9.c4
        have t5 := L9.c5
        have t6 := L9.c6
        simp only at t0 t1 t2 t3 t4 t5 t6
        rw [show ((2 : Nat) : Int) = 2 from rfl] at t6
        have p0 := P9.c0
        have p1 := P9.c1
        have p2 := P9.c2
        have hq : ∀ w : World, (Op.equalIn 10000 58 (.agg #[.int .u64 (f511 : Int), .int .i64 (g511 : Int), .bool r, .bool q', .bool x, .int .i64 (sf : Int), .int .i64 2]) (.agg #[.int .u64 (f511 : Int), .int .i64 (g511 : Int), .bool r, .bool q', .bool x, .int .i64 (sf : Int), .int .i64 2])).run Tryz.prog w = .ok true w := fun w => by rw [eq_leaf]; simp [samP]
        clear kt L9 s9 P9 k9 H8
        go_wp2_with fail
        with_reducible refine kT.mono ?_
        rintro e w10 ⟨rfl, s10, k10⟩
        have c0 : w10.cell? ⟨g, 0, none⟩ = some (.int .u64 (first : Int)) := by rw [Kp.cell k10 (p := ⟨g, 0, none⟩) H9.out.2]; exact H9.out.1
        have HZ : Hid (Kp w w10) := s10.s0.pp.2.2
        clear kT s10 k10 H9 t0 t1 t2 t3 t4 t5 t6 p0 p1 p2 hq
        go_wp2
        go_ret
        exact ⟨rfl, HZ.out⟩
      · have HS : Hid (SP w X wr bt p pm y bP bQ r q' x fr sf (first / 512) 30000) := (HI.out.2.2 (by omega)).le (by omega)
        have y1 : ¬ (i : Int) < i := by omega
        have y2 : ((i : Int) == 0) = false := by simp; omega
        have y3 : decide ((i : Int) = 0) = false := by simp; omega
        have y4 : ¬ i = 0 := by omega
        clear HI hm
        have kG := kj_get HS.out HE.out.1 HE.out.2.1 (by omega)
        rw [HE.out.2.2.2.1] at kG
        go_wp2_with fail
        with_reducible refine kG.mono ?_
        rintro e w2 ⟨rfl, s2⟩
        have k3 : Kp w2 (w2.alloc (.cells #[.int .u64 (f511 : Int), .int .i64 (g511 : Int), .bool r, .bool q', .bool x, .int .i64 (sf : Int), .int .i64 3] 58)) := (Kp.refl w2).alloc _
        have s3 := s2.more k3 w2.heap.size (by omega) (by simp)
        have L3 : LB (w2.alloc (.cells #[.int .u64 (f511 : Int), .int .i64 (g511 : Int), .bool r, .bool q', .bool x, .int .i64 (sf : Int), .int .i64 3] 58)) w2.heap.size ⟨f511, g511, r, q', x, (sf : Int), 3⟩ := by exact LB.made w2 ⟨f511, g511, r, q', x, (sf : Int), 3⟩
        have kT := kj_tables s3
        have v1 := L3.c1
        have v6 := L3.c6
        simp only at v1 v6
        rw [show ((3 : Nat) : Int) = 3 from rfl] at v6
        have H3 : Hid (LB (w2.alloc (.cells #[.int .u64 (f511 : Int), .int .i64 (g511 : Int), .bool r, .bool q', .bool x, .int .i64 (sf : Int), .int .i64 3] 58)) w2.heap.size ⟨f511, g511, r, q', x, (sf : Int), 3⟩ ∧ w.heap.size ≤ w2.heap.size ∧ bt ≠ w2.heap.size ∧ bP ≠ w2.heap.size ∧ bQ ≠ w2.heap.size) := ⟨L3, by have := s2.lt; have := s2.lt.2.2.2.size; omega, by have := s2.lt; omega, by have := s2.lt; omega, by have := s2.lt; omega⟩
        clear kG s2 k3 s3 L3 HS
        go_wp2_with fail
        with_reducible refine kT.mono ?_
        rintro e w4 ⟨rfl, s4, k4⟩
        have kJ := kj_join s4 HK.out.1 HE.out.2.2.2.2.1 HE.out.2.2.2.2.2.1 (by omega)
        have H4 : Hid (LB w4 w2.heap.size ⟨f511, g511, r, q', x, (sf : Int), 3⟩) := H3.out.1.kp k4
        have HB : Hid (w.heap.size ≤ w2.heap.size ∧ bt ≠ w2.heap.size ∧ bP ≠ w2.heap.size ∧ bQ ≠ w2.heap.size) := H3.out.2
        clear kT s4 k4 H3 v1 v6
        generalize w2.heap.size = bL at *
        go_wp2_with fail
        with_reducible refine kJ.mono ?_
        rintro e w5 ⟨rfl, s5, r5⟩
        have kG := kj_get2 s5 HE.out.1 HE.out.2.1 (by omega)
        rw [HE.out.2.2.2.1] at kG
        have H5 : Hid (LB w5 bL ⟨f511, g511, r, q', x, (sf : Int), 3⟩) := H4.out.frO r5 (.inr rfl)
        clear kJ s5 r5 H4
        go_wp2_with fail
        with_reducible refine kG.mono ?_
        rintro e w6 ⟨rfl, s6, r6⟩
        have L6 := H5.out.frO r6 (.inr rfl)
        have zf0 := L6.fz 0
        have zf1 := L6.fz 1
        have zf2 := L6.fz 2
        have zf3 := L6.fz 3
        have zf4 := L6.fz 4
        have zf5 := L6.fz 5
        have zf6 := L6.fz 6
        have t0 := L6.c0
        have t1 := L6.c1
        have t2 := L6.c2
        have t3 := L6.c3
        have t4 := L6.c4
        have t5 := L6.c5
        have t6 := L6.c6
        have L7 := L6.put ⟨f511, g511, r, q', x, (sf : Int), 2⟩
        have k7 := Fr.putL (S := (· = bL)) (Fr.refl _ w6) rfl ⟨f511, g511, r, q', x, (sf : Int), 2⟩
        have s7 := s6.frX k7 (fun i hi => ⟨by have := HB.out.1; omega, .inr hi⟩) HB.out.2.1 HB.out.2.2.1 HB.out.2.2.2
        have kL := kj_leaves s7
        have H7 : Hid (LB (putL w6 bL ⟨f511, g511, r, q', x, (sf : Int), 2⟩) bL ⟨f511, g511, r, q', x, (sf : Int), 2⟩) := L7
        simp only [putL] at kL
        rw [show ((2 : Nat) : Int) = 2 from rfl] at kL
        clear kG s6 r6 H5 L6 L7 k7 s7
        go_wp2_with fail
        with_reducible refine kL.mono ?_
        rintro e w8 ⟨⟨g, cap, rfl, cg, hgl⟩, s8, k8⟩
        have kt := told_any w8 (HT.out.2.kp s8.s0.pp.2.2)
        have H8 : Hid (SW w (fun i => X i ∨ i = bL) w8 bt p pm y bP bQ r q' x fr sf (first / 512) (30000 + 4 + 5 + 4) ∧ LB w8 bL ⟨f511, g511, r, q', x, (sf : Int), 2⟩ ∧ w8.cell? ⟨g, 0, none⟩ = some (.int .u64 (first : Int)) ∧ g < w8.heap.size) := ⟨s8, H7.out.kp k8, by rw [cg, HE.out.2.2.2.2.2.2], hgl⟩
        clear kL cg hgl s8 k8 H7 zf0 zf1 zf2 zf3 zf4 zf5 zf6 t0 t1 t2 t3 t4 t5 t6
        go_wp2_with fail
        with_reducible refine kt.mono ?_
        rintro e w9 ⟨rfl, k9⟩
        have L9 := H8.out.2.1.kp k9
        have s9 := H8.out.1.kps k9
        have P9 := s9.s0.pp.1
        have kT := kj_tables2 s9
        have H9 : Hid (w9.cell? ⟨g, 0, none⟩ = some (.int .u64 (first : Int)) ∧ g < w9.heap.size) := ⟨by rw [Kp.cell k9 (p := ⟨g, 0, none⟩) H8.out.2.2.2]; exact H8.out.2.2.1, Nat.lt_of_lt_of_le H8.out.2.2.2 k9.size⟩
        have t0 := L9.c0
        have t1 := L9.c1
        have t2 := L9.c2
        have t3 := L9.c3
        have t4 := L9.c4
        have t5 := L9.c5
        have t6 := L9.c6
        simp only at t0 t1 t2 t3 t4 t5 t6
        rw [show ((2 : Nat) : Int) = 2 from rfl] at t6
        have p0 := P9.c0
        have p1 := P9.c1
        have p2 := P9.c2
        have hq : ∀ w : World, (Op.equalIn 10000 58 (.agg #[.int .u64 (f511 : Int), .int .i64 (g511 : Int), .bool r, .bool q', .bool x, .int .i64 (sf : Int), .int .i64 2]) (.agg #[.int .u64 (f511 : Int), .int .i64 (g511 : Int), .bool r, .bool q', .bool x, .int .i64 (sf : Int), .int .i64 2])).run Tryz.prog w = .ok true w := fun w => by rw [eq_leaf]; simp [samP]
        clear kt L9 s9 P9 k9 H8
        go_wp2_with fail
        with_reducible refine kT.mono ?_
        rintro e w10 ⟨rfl, s10, k10⟩
        have c0 : w10.cell? ⟨g, 0, none⟩ = some (.int .u64 (first : Int)) := by rw [Kp.cell k10 (p := ⟨g, 0, none⟩) H9.out.2]; exact H9.out.1
        have HZ : Hid (Kp w w10) := s10.s0.pp.2.2
        clear kT s10 k10 H9 t0 t1 t2 t3 t4 t5 t6 p0 p1 p2 hq
        go_wp2
        go_ret
        exact ⟨rfl, HZ.out⟩
      · have HS : Hid (SP w X wr bt p pm y bP bQ r q' x fr sf (first / 512) 30000) := (HI.out.2.2 (by omega)).le (by omega)
        have y1 : (20 : Int) < m := by omega
        have y2 : ((m : Int) == 0) = false := by simp; omega
        have y3 : decide ((m : Int) = 0) = false := by simp; omega
        have y4 : ¬ m = 0 := by omega
        clear HI hm
        rw [show ((20 : Nat) : Int) = 20 from rfl]
        have kG := kj_get HS.out HE.out.1 HE.out.2.1 (by omega)
        rw [HE.out.2.2.2.1] at kG
        go_wp2_with fail
        with_reducible refine kG.mono ?_
        rintro e w2 ⟨rfl, s2⟩
        have k3 : Kp w2 (w2.alloc (.cells #[.int .u64 (f511 : Int), .int .i64 (g511 : Int), .bool r, .bool q', .bool x, .int .i64 (sf : Int), .int .i64 3] 58)) := (Kp.refl w2).alloc _
        have s3 := s2.more k3 w2.heap.size (by omega) (by simp)
        have L3 : LB (w2.alloc (.cells #[.int .u64 (f511 : Int), .int .i64 (g511 : Int), .bool r, .bool q', .bool x, .int .i64 (sf : Int), .int .i64 3] 58)) w2.heap.size ⟨f511, g511, r, q', x, (sf : Int), 3⟩ := by exact LB.made w2 ⟨f511, g511, r, q', x, (sf : Int), 3⟩
        have kT := kj_tables s3
        have v1 := L3.c1
        have v6 := L3.c6
        simp only at v1 v6
        rw [show ((3 : Nat) : Int) = 3 from rfl] at v6
        have H3 : Hid (LB (w2.alloc (.cells #[.int .u64 (f511 : Int), .int .i64 (g511 : Int), .bool r, .bool q', .bool x, .int .i64 (sf : Int), .int .i64 3] 58)) w2.heap.size ⟨f511, g511, r, q', x, (sf : Int), 3⟩ ∧ w.heap.size ≤ w2.heap.size ∧ bt ≠ w2.heap.size ∧ bP ≠ w2.heap.size ∧ bQ ≠ w2.heap.size) := ⟨L3, by have := s2.lt; have := s2.lt.2.2.2.size; omega, by have := s2.lt; omega, by have := s2.lt; omega, by have := s2.lt; omega⟩
        clear kG s2 k3 s3 L3 HS
        go_wp2_with fail
        with_reducible refine kT.mono ?_
        rintro e w4 ⟨rfl, s4, k4⟩
        have kJ := kj_join s4 HK.out.1 HE.out.2.2.2.2.1 HE.out.2.2.2.2.2.1 (by omega)
        have H4 : Hid (LB w4 w2.heap.size ⟨f511, g511, r, q', x, (sf : Int), 3⟩) := H3.out.1.kp k4
        have HB : Hid (w.heap.size ≤ w2.heap.size ∧ bt ≠ w2.heap.size ∧ bP ≠ w2.heap.size ∧ bQ ≠ w2.heap.size) := H3.out.2
        clear kT s4 k4 H3 v1 v6
        generalize w2.heap.size = bL at *
        go_wp2_with fail
        with_reducible refine kJ.mono ?_
        rintro e w5 ⟨rfl, s5, r5⟩
        have kG := kj_get2 s5 HE.out.1 HE.out.2.1 (by omega)
        rw [HE.out.2.2.2.1] at kG
        have H5 : Hid (LB w5 bL ⟨f511, g511, r, q', x, (sf : Int), 3⟩) := H4.out.frO r5 (.inr rfl)
        clear kJ s5 r5 H4
        go_wp2_with fail
        with_reducible refine kG.mono ?_
        rintro e w6 ⟨rfl, s6, r6⟩
        have L6 := H5.out.frO r6 (.inr rfl)
        have zf0 := L6.fz 0
        have zf1 := L6.fz 1
        have zf2 := L6.fz 2
        have zf3 := L6.fz 3
        have zf4 := L6.fz 4
        have zf5 := L6.fz 5
        have zf6 := L6.fz 6
        have t0 := L6.c0
        have t1 := L6.c1
        have t2 := L6.c2
        have t3 := L6.c3
        have t4 := L6.c4
        have t5 := L6.c5
        have t6 := L6.c6
        have L7 := L6.put ⟨f511, g511, r, q', x, (sf : Int), 2⟩
        have k7 := Fr.putL (S := (· = bL)) (Fr.refl _ w6) rfl ⟨f511, g511, r, q', x, (sf : Int), 2⟩
        have s7 := s6.frX k7 (fun i hi => ⟨by have := HB.out.1; omega, .inr hi⟩) HB.out.2.1 HB.out.2.2.1 HB.out.2.2.2
        have kL := kj_leaves s7
        have H7 : Hid (LB (putL w6 bL ⟨f511, g511, r, q', x, (sf : Int), 2⟩) bL ⟨f511, g511, r, q', x, (sf : Int), 2⟩) := L7
        simp only [putL] at kL
        rw [show ((2 : Nat) : Int) = 2 from rfl] at kL
        clear kG s6 r6 H5 L6 L7 k7 s7
        go_wp2_with fail
        with_reducible refine kL.mono ?_
        rintro e w8 ⟨⟨g, cap, rfl, cg, hgl⟩, s8, k8⟩
        have kt := told_any w8 (HT.out.2.kp s8.s0.pp.2.2)
        have H8 : Hid (SW w (fun i => X i ∨ i = bL) w8 bt p pm y bP bQ r q' x fr sf (first / 512) (30000 + 4 + 5 + 4) ∧ LB w8 bL ⟨f511, g511, r, q', x, (sf : Int), 2⟩ ∧ w8.cell? ⟨g, 0, none⟩ = some (.int .u64 (first : Int)) ∧ g < w8.heap.size) := ⟨s8, H7.out.kp k8, by rw [cg, HE.out.2.2.2.2.2.2], hgl⟩
        clear kL cg hgl s8 k8 H7 zf0 zf1 zf2 zf3 zf4 zf5 zf6 t0 t1 t2 t3 t4 t5 t6
        go_wp2_with fail
        with_reducible refine kt.mono ?_
        rintro e w9 ⟨rfl, k9⟩
        have L9 := H8.out.2.1.kp k9
        have s9 := H8.out.1.kps k9
        have P9 := s9.s0.pp.1
        have kT := kj_tables2 s9
        have H9 : Hid (w9.cell? ⟨g, 0, none⟩ = some (.int .u64 (first : Int)) ∧ g < w9.heap.size) := ⟨by rw [Kp.cell k9 (p := ⟨g, 0, none⟩) H8.out.2.2.2]; exact H8.out.2.2.1, Nat.lt_of_lt_of_le H8.out.2.2.2 k9.size⟩
        have t0 := L9.c0
        have t1 := L9.c1
        have t2 := L9.c2
        have t3 := L9.c3
        have t4 := L9.c4
        have t5 := L9.c5
        have t6 := L9.c6
        simp only at t0 t1 t2 t3 t4 t5 t6
        rw [show ((2 : Nat) : Int) = 2 from rfl] at t6
        have p0 := P9.c0
        have p1 := P9.c1
        have p2 := P9.c2
        have hq : ∀ w : World, (Op.equalIn 10000 58 (.agg #[.int .u64 (f511 : Int), .int .i64 (g511 : Int), .bool r, .bool q', .bool x, .int .i64 (sf : Int), .int .i64 2]) (.agg #[.int .u64 (f511 : Int), .int .i64 (g511 : Int), .bool r, .bool q', .bool x, .int .i64 (sf : Int), .int .i64 2])).run Tryz.prog w = .ok true w := fun w => by rw [eq_leaf]; simp [samP]
        clear kt L9 s9 P9 k9 H8
        go_wp2_with fail
        with_reducible refine kT.mono ?_
        rintro e w10 ⟨rfl, s10, k10⟩
        have c0 : w10.cell? ⟨g, 0, none⟩ = some (.int .u64 (first : Int)) := by rw [Kp.cell k10 (p := ⟨g, 0, none⟩) H9.out.2]; exact H9.out.1
        have HZ : Hid (Kp w w10) := s10.s0.pp.2.2
        clear kT s10 k10 H9 t0 t1 t2 t3 t4 t5 t6 p0 p1 p2 hq
        go_wp2
        go_ret
        exact ⟨rfl, HZ.out⟩
theorem keeps_any (a0 a1 a4 : Int) (na : Option Addr) (m cap : Nat) (f : Nat → Int) (r q x : Bool) (w : World) (NI : NSK .i64 w na m f) (T : TAB w) :
    Calls Tryz.prog 5 #[.int .u64 a0, .int .i64 a1, .slice na m cap, .agg #[.bool r, .bool q, .bool x], .int .i64 a4] w fun e w' => e = .returned (.bool true) ∧ Kp w w' := by
  obtain ⟨d1, h2, h3⟩ := and_lim a1 1 (by decide)
  obtain ⟨sf, h4, h5⟩ := and_lim a4 15 (by decide)
  have h1 : ∃ first : Nat, bits .and .u64 a0 268434944 = (first : Int) ∧ first % 512 = 0 ∧ first < 268435456 := by
    have h : (BitVec.ofInt 64 a0 &&& BitVec.ofInt 64 268434944).toNat % 512 = 0 ∧ (BitVec.ofInt 64 a0 &&& BitVec.ofInt 64 268434944).toNat < 268435456 := by
      rw [BitVec.toNat_and, show (BitVec.ofInt 64 268434944).toNat = 268434944 from by decide]
      refine ⟨?_, Nat.lt_of_le_of_lt Nat.and_le_right (by decide)⟩
      rw [show (512 : Nat) = 2 ^ 9 from rfl, Nat.and_mod_two_pow]
      simp
    refine ⟨_, ?_, h⟩
    show IntKind.u64.wrap ((BitVec.ofInt 64 a0 &&& BitVec.ofInt 64 268434944).toNat : Nat) = _
    have h2 := h.2
    generalize (BitVec.ofInt 64 a0 &&& BitVec.ofInt 64 268434944).toNat = n at *
    simp only [IntKind.wrap, IntKind.bits, IntKind.signed]
    simp
    omega
  obtain ⟨first, e1, e2, e3⟩ := h1
  exact keeps_walk a0 a1 a4 first d1 (1 + d1) (512 * (1 + d1)) sf na m cap f r q x w NI T e1 e2 e3 h2 (by omega) (by omega) (by omega) h4 h5
end Go.Proofs.YtcankhnnikhblaaGreatDoor
