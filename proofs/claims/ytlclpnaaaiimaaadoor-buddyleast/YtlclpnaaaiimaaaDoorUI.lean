/- BuddyLeast: the walk. -/
import Derived.Test.YtlclpnaaaiimaaaDoorUH
namespace Go.Proofs.YtlclpnaaaiimaaaDoor
open Go.RowKit

theorem Dr.drewN {a b : World} {n : Nat} (h : Dr (a.drewN n) b) : ∃ m, b = a.drewN m := by
  obtain ⟨m, rfl⟩ := h
  exact ⟨n + m, by rw [World.drewN_drewN]⟩
theorem RL.mark {w w' : World} {b0 b : Nat} {v : Value} {L : List (Nat × Nat)} (h : RL w b0 v L) (k : Fr (· = b) w w') (hv : ∀ g, v.ownBlock = some g → g < b) : RL w' b0 v L :=
  ⟨h.ol.fr k (fun g hg e => by have := hv g hg; omega), fun g hg => ⟨(h.up g hg).1, Nat.lt_of_lt_of_le (h.up g hg).2 k.size⟩⟩
set_option maxHeartbeats 16000000 in
set_option maxRecDepth 1000000 in
theorem least_walk (a0 a1 a3 : Int) (lo m r n : Nat) (nc : Option Addr) (mc capc : Nat) (V : Nat → Int × Int × Int) (w : World) (C : Steps w nc mc V) (T : TAB w)
    (e1 : bits .and .i64 a0 4095 = (lo : Int)) (e2 : bits .and .i64 a1 2047 = (m : Int)) (e3 : (m : Int).tmod 1200 = (r : Int)) (e4 : 1 + (r : Int) = (n : Int)) (h1 : lo ≤ 4095) (h2 : 1 ≤ n) (h3 : n ≤ 1200) :
    Calls Tryd.prog 7 #[.int .i64 a0, .int .i64 a1, .slice nc mc capc, .int .i64 a3] w fun e w' => e = .returned (.bool true) ∧ Kp w w' := by
  have k1 := new_ok lo n w T (by omega) (by omega)
  have CC : Aside (Steps w nc mc V) := C
  have HT : Hid (TAB w) := T
  have z1 : (n : Int) ≤ 1200 := by omega
  have z2 : (1 : Int) ≤ n := by omega
  have z3 : (lo : Int) ≤ 4095 := by omega
  have z4 : ¬ (n : Int) = 0 := by omega
  clear C T
  go_enter Tryd.func7, Tryd.ntmps7
  go_wp2_with fail
  with_reducible refine k1.mono ?_
  rintro e w1 ⟨⟨p, U, rfl, B1, N1⟩, K1⟩
  clear k1 e1 e2 e3 e4
  obtain ⟨B, hB⟩ : ∃ B, B = w1.heap.size := ⟨_, rfl⟩
  have I0 : Hid (BU w B U w1 p lo (lo + n) (ivl lo (lo + n))) := ⟨B1, K1, fun k hk => ⟨N1 k hk, by rw [hB]; exact B1.own k hk⟩, by rw [hB]; exact Nat.le_refl _⟩
  clear B1 N1 K1 hB
  go_upto_block 0 with fail
  go_cut [] (fun wx => ∃ F : Nat → Bool, Hid (BU w B U wx p lo (lo + n) F))
  case first =>
    go_wp2_with fail
    go_loopg [11] 41 (fun g v11 wr => ∃ (i : Nat) (F : Nat → Bool), v11 = .int .i64 (i : Int) ∧ i ≤ 40 ∧ 41 - i ≤ g ∧ Hid (BU w B U wr p lo (lo + n) F))
    case atStart => exact ⟨0, _, rfl, by omega, by omega, I0⟩
    case round =>
      clear I0
      obtain ⟨i, F, rfl, hi, hg, HI⟩ := hrel
      by_cases hlt : i < mc ∧ i < 40
      · have y1 : (i : Int) < mc := by omega
        have y2 : (i : Int) < 40 := by omega
        obtain ⟨⟨cb, co, rfl, d1, d2, d3, d4⟩, _, _, _⟩ := CC.out i hlt.1
        have c0 := (HI.out.kp.cell (p := ⟨cb, co + i * 3, none⟩) d1).trans d2
        have c1 := (HI.out.kp.cell (p := ⟨cb, co + i * 3 + 1, none⟩) d1).trans d3
        have c2 := (HI.out.kp.cell (p := ⟨cb, co + i * 3 + 2, none⟩) d1).trans d4
        generalize (V i).1 = vk at *
        generalize (V i).2.1 = vf at *
        generalize (V i).2.2 = vo at *
        clear d1 d2 d3 d4
        obtain ⟨kd, q1, q2⟩ := and_lim vk 1 (by omega)
        have q1' : bits .and .i64 vk 1 = (kd : Int) := q1
        clear q1
        by_cases hk0 : kd = 0
        · subst hk0
          obtain ⟨o, o1, o2⟩ := and_lim vo 7 (by omega)
          have o1' : bits .and .i64 vo 7 = (o : Int) := o1
          have k2 := take_some HI.out.bf o (by omega)
          clear o1
          go_wp2_with fail
          with_reducible refine k2.mono ?_
          rintro e w3 ⟨⟨a, b, rfl⟩, F', B3, F3⟩
          have HI2 : Hid (BU w B U w3 p lo (lo + n) F') := HI.out.next B3 F3
          clear B3 F3 k2 HI
          go_wp2
          go_roundg (41 - (i + 1))
          case measure => omega
          case rel => exact ⟨i + 1, F', by go_num, by omega, by omega, HI2⟩
        · have hk1 : kd = 1 := by omega
          subst hk1
          obtain ⟨t, q, g1, g2, g3, g4, g5⟩ := place_of vf n h2
          have y3 : (q : Int) < n := by omega
          have k2 := give_any HI.out.bf ((lo : Int) + q) 0
          generalize gvR lo (lo + n) F ((lo : Int) + q) 0 = rr at *
          generalize gvF lo (lo + n) F ((lo : Int) + q) 0 = F' at *
          clear hk0
          go_wp2_with fail
          with_reducible refine k2.mono ?_
          rintro e w3 ⟨rfl, B3, F3⟩
          have HI2 : Hid (BU w B U w3 p lo (lo + n) F') := HI.out.next B3 F3
          clear B3 F3 k2 HI
          go_wp2
          go_roundg (41 - (i + 1))
          case measure => omega
          case rel => exact ⟨i + 1, F', by go_num, by omega, by omega, HI2⟩
      · have NLT : Hid (¬ (i < mc ∧ i < 40)) := hlt
        clear hlt
        by_cases hlt : (i : Int) < mc
        · have y2 : ¬ (i : Int) < 40 := by have := NLT.out; omega
          go_wp2_with fail
          go_meet
          case rel => exact ⟨F, HI⟩
        · go_wp2_with fail
          go_meet
          case rel => exact ⟨F, HI⟩
  case rest =>
    obtain ⟨F, HI⟩ := hcut
    have k2 := runs_any HI.out.bf
    obtain ⟨t, o, g1, g2, g3, g4, g5⟩ := place_of a3 10 (by omega)
    rw [show ((10 : Nat) : Int) = 10 from rfl] at g1 g2 g3 g4
    have y3 : (o : Int) < 10 := by omega
    clear I0 CC
    go_wp2_with fail
    with_reducible refine k2.mono ?_
    rintro e w3 ⟨⟨v, rfl, R3⟩, K3⟩
    have I3 := HI.out.kps K3
    obtain ⟨L, hL⟩ : ∃ L, L = rl F (lo + n) lo := ⟨_, rfl⟩
    rw [← hL] at R3
    obtain ⟨bw, hbw⟩ : ∃ bw, bw = wc.heap.size := ⟨_, rfl⟩
    rw [← hbw] at R3
    have hll := I3.bf.len
    have hor := I3.bf.ord
    rw [← hL] at hll hor
    have hmk := make_marks n w3 (by omega)
    obtain ⟨b, hb⟩ : ∃ b, b = w3.heap.size := ⟨_, rfl⟩
    obtain ⟨w4, h4⟩ : ∃ w4, w4 = w3.alloc (.cells (offB n) 4) := ⟨_, rfl⟩
    have k34 : Kp w3 w4 := by rw [h4]; exact (Kp.refl w3).alloc _
    have hBb : B ≤ b := by rw [hb]; exact I3.bs
    have hRl : ∀ g, v.ownBlock = some g → g < b := fun g hg => by rw [hb]; exact (R3.up g hg).2
    have S4 : Hid (BU w B U w4 p lo (lo + n) F ∧ ON w4 b n (fun x => F (lo + x) && decide (x < 0)) ∧ RL w4 bw v L) := ⟨I3.kps k34, by
      rw [h4, hb]
      exact (ON.made w3 n).like (fun i hi => by simp), R3.kp k34⟩
    have HL : Hid (L = rl F (lo + n) lo ∧ (∀ x ∈ L, x.2 ≤ 9 ∧ x.1 ≤ 1048576) ∧ L.length ≤ 1200 ∧ (∀ g, v.ownBlock = some g → g < b) ∧ B ≤ b) := ⟨hL, hor, by omega, hRl, hBb⟩
    rw [← h4, ← hb] at hmk
    clear k2 HI R3 K3 I3 hL hll hor k34 h4 hb hRl hBb g1 g2 g3 g4 hbw
    generalize offB n = OB at *
    go_upto_block 2 with fail
    clear hmk
    go_cut [] (fun wx => Hid (BU w B U wx p lo (lo + n) F ∧ ON wx b n (fun x => F (lo + x)) ∧ RL wx bw v L))
    case first =>
      go_wp2_with fail
      go_loopg [15] (n + 1) (fun g v15 wq => ∃ (k : Nat), v15 = .int .i64 (k : Int) ∧ k ≤ n ∧ n + 1 - k ≤ g ∧ Hid (BU w B U wq p lo (lo + n) F ∧ ON wq b n (fun x => F (lo + x) && decide (x < k)) ∧ RL wq bw v L))
      case atStart => exact ⟨0, rfl, by omega, by omega, S4⟩
      case round =>
        clear S4
        obtain ⟨k, rfl, hk, hgk, HS⟩ := hrel
        by_cases hkn : k < n
        · have y4 : (k : Int) < n := by omega
          have k3 := has_any HS.out.1.bf ((lo : Int) + k)
          rw [show (lo : Int) + k = ((lo + k : Nat) : Int) by omega, hasF_nat] at k3
          rw [show ((lo + k : Nat) : Int) = (lo : Int) + k by omega] at k3
          obtain ⟨bt, hbt⟩ : ∃ bt, F (lo + k) = bt := ⟨_, rfl⟩
          rw [hbt] at k3
          have HBT : Hid (F (lo + k) = bt) := hbt
          clear hbt
          go_wp2_with fail
          with_reducible refine k3.mono ?_
          rintro e w5 ⟨rfl, D5⟩
          have o5 := HS.out.2.1.kp D5.kp
          have c5 := o5.cell k hkn
          have f5 := o5.frz k
          have fr : Fr (· = b) w5 (w5.setCell ⟨b, k, none⟩ (.bool bt)) := (Fr.refl (· = b) w5).set ⟨b, k, none⟩ _ (show b = b from rfl)
          have HS2 : Hid (BU w B U (w5.setCell ⟨b, k, none⟩ (.bool bt)) p lo (lo + n) F ∧ ON (w5.setCell ⟨b, k, none⟩ (.bool bt)) b n (fun x => F (lo + x) && decide (x < k + 1)) ∧ RL (w5.setCell ⟨b, k, none⟩ (.bool bt)) bw v L) :=
            ⟨(HS.out.1.kps D5.kp).frs fr (fun i h => by have := HL.out.2.2.2.2; omega) (by have := HS.out.1.b1; omega), (o5.set k bt).like (fun i hi => by
              by_cases e : i = k
              · rw [if_pos e, e, HBT.out, decide_eq_true (by omega), Bool.and_true]
              · rw [if_neg e]
                congr 1
                exact decide_eq_decide.2 (by omega)), (HS.out.2.2.kp D5.kp).mark fr HL.out.2.2.2.1⟩
          generalize (F (lo + k) && decide (k < k)) = ov at c5
          clear HS k3 D5 o5 fr HBT
          go_wp2
          go_roundg (n + 1 - (k + 1))
          case measure => omega
          case rel => exact ⟨k + 1, by go_num, by omega, by omega, HS2⟩
        · have ek : k = n := by omega
          subst ek
          have HS2 : Hid (BU w B U wr p lo (lo + k) F ∧ ON wr b k (fun x => F (lo + x)) ∧ RL wr bw v L) := ⟨HS.out.1, HS.out.2.1.like (fun i hi => by rw [decide_eq_true hi, Bool.and_true]), HS.out.2.2⟩
          clear HS
          go_wp2_with fail
          go_meet
          case rel => exact HS2
    case rest =>
      have S5 : Hid (BU w B U wc p lo (lo + n) F ∧ ON wc b n (fun x => F (lo + x)) ∧ RL wc bw v L) := hcut
      clear hcut S4
      obtain ⟨na, cap, rfl, l1, hv⟩ := S5.out.2.2.form
      have HV : Aside (∀ i x, L[i]? = some x → ∃ g, na = some ⟨g, 0, none⟩ ∧ g < wc.heap.size ∧ bw ≤ g ∧ wc.cell? ⟨g, i * 2, none⟩ = some (.int .i64 (x.1 : Int)) ∧ wc.cell? ⟨g, i * 2 + 1, none⟩ = some (.int .i64 (x.2 : Int))) := hv
      have x1 : ((L.length : Nat) : Int) ≤ 1200 := by have := HL.out.2.2.1; omega
      have x2 : ((L.length : Nat) : Int) ≤ cap := by omega
      have HBB : B ≤ b := HL.out.2.2.2.2
      have HL2 : Hid (L = rl F (lo + n) lo ∧ (∀ x ∈ L, x.2 ≤ 9 ∧ x.1 ≤ 1048576)) := ⟨HL.out.1, HL.out.2.1⟩
      clear hv HL
      obtain ⟨ws, hws⟩ : ∃ ws, ws = wc := ⟨_, rfl⟩
      generalize hLn : L.length = ln at *
      have HLN : Hid (L.length = ln) := hLn
      clear hLn
      go_upto_block 4 with fail
      go_cut [16] (fun v16 wx => v16 = .int .i64 (bst L o ln).1 ∧ Hid (Dr ws wx))
      case first =>
        have HV2 : Aside (∀ i x, L[i]? = some x → ∃ g, na = some ⟨g, 0, none⟩ ∧ g < ws.heap.size ∧ ws.cell? ⟨g, i * 2 + 1, none⟩ = some (.int .i64 (x.2 : Int)) ∧ ws.cell? ⟨g, i * 2, none⟩ = some (.int .i64 (x.1 : Int))) := fun i x hx => by
          obtain ⟨g, q1, q2, _, q4, q5⟩ := HV.out i x hx
          exact ⟨g, q1, by rw [hws]; exact q2, by rw [hws]; exact q5, by rw [hws]; exact q4⟩
        have HD0 : Hid (Dr ws wc) := by rw [hws]; exact Dr.refl _
        clear HV hws S5
        go_wp2_with fail
        go_loopg [16, 17, 18] (ln + 1) (fun g v16 v17 v18 wq => ∃ (k : Nat) (wn bs : Int), v16 = .int .i64 wn ∧ v17 = .int .i64 bs ∧ v18 = .int .i64 (k : Int) ∧ k ≤ ln ∧ ln + 1 - k ≤ g ∧ Hid (bst L o k = (wn, bs) ∧ Dr ws wq))
        case atStart => exact ⟨0, -1, 10, rfl, rfl, rfl, by omega, by omega, rfl, HD0⟩
        case round =>
          clear HD0
          obtain ⟨k, wn, bs, rfl, rfl, rfl, hk, hgk, HS⟩ := hrel
          by_cases hkl : k < ln
          · have y4 : (k : Int) < ln := by omega
            obtain ⟨x, hx⟩ : ∃ x, L[k]? = some x := ⟨L[k]'(by have := HLN.out; omega), List.getElem?_eq_getElem (by have := HLN.out; omega)⟩
            obtain ⟨gb, rfl, lg, q5, q4⟩ := HV2.out k x hx
            have hx9 := HL2.out.2 x (List.mem_of_getElem? hx)
            obtain ⟨xf, xo⟩ := x
            have hb := bst_succ (o := o) hx
            rw [HS.out.1] at hb
            have y5 : (xo : Int) ≤ 9 := by have : xo ≤ 9 := hx9.1; omega
            have y6 : (xf : Int) ≤ 1048576 := by have : xf ≤ 1048576 := hx9.2; omega
            have cx : wr.cell? ⟨gb, k * 2 + 1, none⟩ = some (.int .i64 (xo : Int)) := (HS.out.2.kp.cell (p := ⟨gb, k * 2 + 1, none⟩) lg).trans q5
            have cf : wr.cell? ⟨gb, k * 2, none⟩ = some (.int .i64 (xf : Int)) := (HS.out.2.kp.cell (p := ⟨gb, k * 2, none⟩) lg).trans q4
            have HD2 : Aside (∀ n, Dr ws (wr.drewN n)) := fun n => HS.out.2.trans ⟨n, rfl⟩
            have HD3 : Hid (Dr ws wr) := HS.out.2
            have hb2 : bst L o (k + 1) = if o ≤ xo ∧ (xo : Int) < bs then ((xf : Int), (xo : Int)) else (wn, bs) := hb
            clear hb q4 q5 hx9 hx lg HS
            by_cases c1 : o ≤ xo
            · have d1 : (o : Int) ≤ xo := by omega
              by_cases c2 : (xo : Int) < bs
              · rw [if_pos ⟨c1, c2⟩] at hb2
                have HB : Hid (bst L o (k + 1) = ((xf : Int), (xo : Int))) := hb2
                clear hb2
                go_wp2_with fail
                go_quiet (fail)
                go_wp2
                go_roundg (ln + 1 - (k + 1))
                case measure => omega
                case rel => exact ⟨k + 1, xf, xo, rfl, rfl, by go_num, by omega, by omega, HB.out, HD2.out _⟩
              · rw [if_neg (fun z => c2 z.2)] at hb2
                have HB : Hid (bst L o (k + 1) = (wn, bs)) := hb2
                clear hb2
                go_wp2
                go_roundg (ln + 1 - (k + 1))
                case measure => omega
                case rel => exact ⟨k + 1, wn, bs, rfl, rfl, by go_num, by omega, by omega, HB.out, HD3.out⟩
            · have d1 : ¬ (o : Int) ≤ xo := by omega
              rw [if_neg (fun z => c1 z.1)] at hb2
              have HB : Hid (bst L o (k + 1) = (wn, bs)) := hb2
              clear hb2
              go_wp2
              go_roundg (ln + 1 - (k + 1))
              case measure => omega
              case rel => exact ⟨k + 1, wn, bs, rfl, rfl, by go_num, by omega, by omega, HB.out, HD3.out⟩
          · have ek : k = ln := by omega
            subst ek
            go_wp2_with fail
            go_meet
            case rel => exact ⟨by rw [HS.out.1], HS.out.2⟩
      case rest =>
        obtain ⟨rfl, HD⟩ := hcut
        have S6 : Hid (BU w B U wc p lo (lo + n) F ∧ ON wc b n (fun x => F (lo + x))) := by
          have D : Kp ws wc := HD.out.kp
          rw [hws] at D
          exact ⟨S5.out.1.kps D, S5.out.2.1.kp D⟩
        have HBb : Hid (B ≤ b) := HBB
        clear HD S5 hws
        rcases tk_or F o with ⟨o', i', t⟩ | t
        · have BFo := S6.out.1.bf
          have hwant := bst_take BFo t
          rw [← HL2.out.1, HLN.out] at hwant
          obtain ⟨j, ej, hA, r1, r2, r3⟩ := t.place BFo
          have k3 := take_ok BFo o o' i' t
          rw [r3, ej] at k3
          rw [ej] at hwant
          rw [hwant]
          have hp := Nat.two_pow_pos o
          have hpw : (2 : Int) ^ o = ((2 ^ o : Nat) : Int) := by push_cast; rfl
          have hs10 : (2 ^ o : Nat) ≤ 2 ^ 9 := Nat.pow_le_pow_right (by omega) (by omega)
          have hsf : ∀ k, subF F o j k = (F k && !decide (j * 2 ^ o ≤ k ∧ k < j * 2 ^ o + 2 ^ o)) := fun k => by
            unfold subF
            congr 2
            exact decide_eq_decide.2 (blk_iff k o j)
          have HA : Hid ((∀ k, j * 2 ^ o ≤ k → k < j * 2 ^ o + 2 ^ o → F k = true) ∧ (∀ k, subF F o j k = (F k && !decide (j * 2 ^ o ≤ k ∧ k < j * 2 ^ o + 2 ^ o)))) := ⟨fun k a c => hA k ((blk_iff ..).2 ⟨a, c⟩), hsf⟩
          have HE5 : Hid ((2 : Int) ^ o = ((2 ^ o : Nat) : Int)) := hpw
          clear BFo hwant t hA r3 ej hsf HL2 HLN hpw
          generalize subF F o j = F1 at *
          generalize j * 2 ^ o = f at *
          generalize 2 ^ o = s at *
          have v1 : (lo : Int) ≤ f := by omega
          have v2 : (f : Int) + s ≤ lo + n := by omega
          have v3 : (s : Int) ≤ 512 := by omega
          have v4 : (0 : Int) ≤ f := by omega
          go_wp2_with fail
          with_reducible refine k3.mono ?_
          rintro e w6 ⟨rfl, B6, F6⟩
          have HS6 : Hid (BU w B U w6 p lo (lo + n) F1 ∧ ON w6 b n (fun x => F (lo + x))) := ⟨S6.out.1.next B6 F6, S6.out.2.fr F6 (fun h => by have := (S6.out.1.new b h).2; have := HBb.out; omega)⟩
          clear S6 B6 F6 k3 HBb
          go_wp2_with fail
          go_loopg [21] (n + 1) (fun g v21 wq => ∃ (k : Nat), v21 = .int .i64 (k : Int) ∧ k ≤ n ∧ n + 1 - k ≤ g ∧ Hid (Dr w6 wq))
          case atStart => exact ⟨0, rfl, by omega, by omega, Dr.refl _⟩
          case round =>
            obtain ⟨k, rfl, hk, hgk, HDk⟩ := hrel
            by_cases hkn : k < n
            · have y4 : (k : Int) < n := by omega
              have cw : wr.cell? ⟨b, k, none⟩ = some (.bool (F (lo + k))) := (HDk.out.kp.cell (p := ⟨b, k, none⟩) HS6.out.2.lt).trans (HS6.out.2.cell k hkn)
              have HD2 : Aside (∀ n, Dr w6 (wr.drewN n)) := fun n => HDk.out.trans ⟨n, rfl⟩
              by_cases c1 : f ≤ lo + k
              · have d1 : (f : Int) ≤ (lo : Int) + k := by omega
                by_cases c2 : lo + k < f + s
                · have d2 : (lo : Int) + k < (f : Int) + s := by omega
                  have hw : F (lo + k) = true := HA.out.1 (lo + k) c1 c2
                  have HF1 : Hid (F1 (lo + k) = false) := by
                    show F1 (lo + k) = false
                    rw [HA.out.2, decide_eq_true ⟨c1, c2⟩]; simp
                  rw [hw] at cw
                  have k7 : ∀ m, Calls Tryd.prog 17 #[.pointer (some ⟨p, 0, none⟩), .int .i64 ((lo : Int) + k)] (wr.drewN m) fun e w'' => e = .returned (.bool false) ∧ ∃ q, w'' = wr.drewN q := fun m => by
                    have := has_any ((HS6.out.1.kps HDk.out.kp).kps ((Kp.refl wr).drewN m)).bf ((lo : Int) + k)
                    rw [show (lo : Int) + k = ((lo + k : Nat) : Int) by omega, hasF_nat] at this
                    rw [show ((lo + k : Nat) : Int) = (lo : Int) + k by omega, HF1.out] at this
                    exact this.mono fun e w'' ⟨a, c⟩ => ⟨a, c.drewN⟩
                  clear hw HF1
                  have e5 := HE5.out
                  go_wp2_with fail
                  go_quiet (first | (go_at_call 17; go_must (exact k7 _)))
                  go_wp2
                  clear e5
                  go_roundg (n + 1 - (k + 1))
                  case measure => omega
                  case rel => exact ⟨k + 1, by go_num, by omega, by omega, HD2.out _⟩
                · have d2 : ¬ (lo : Int) + k < (f : Int) + s := by omega
                  have e5 := HE5.out
                  cases hbt : F (lo + k)
                  · have HF1 : Hid (F1 (lo + k) = false) := by
                      show F1 (lo + k) = false
                      rw [HA.out.2, hbt]; rfl
                    have k7 : ∀ m, Calls Tryd.prog 17 #[.pointer (some ⟨p, 0, none⟩), .int .i64 ((lo : Int) + k)] (wr.drewN m) fun e w'' => e = .returned (.bool false) ∧ ∃ q, w'' = wr.drewN q := fun m => by
                      have := has_any ((HS6.out.1.kps HDk.out.kp).kps ((Kp.refl wr).drewN m)).bf ((lo : Int) + k)
                      rw [show (lo : Int) + k = ((lo + k : Nat) : Int) by omega, hasF_nat] at this
                      rw [show ((lo + k : Nat) : Int) = (lo : Int) + k by omega, HF1.out] at this
                      exact this.mono fun e w'' ⟨a, c⟩ => ⟨a, c.drewN⟩
                    rw [hbt] at cw
                    clear hbt HF1
                    go_wp2_with fail
                    go_quiet (first | (go_at_call 17; go_must (exact k7 _)))
                    go_wp2
                    clear e5
                    go_roundg (n + 1 - (k + 1))
                    case measure => omega
                    case rel => exact ⟨k + 1, by go_num, by omega, by omega, HD2.out _⟩
                  · have HF1 : Hid (F1 (lo + k) = true) := by
                      show F1 (lo + k) = true
                      rw [HA.out.2, decide_eq_false (fun z => c2 z.2), hbt]; rfl
                    have k7 : ∀ m, Calls Tryd.prog 17 #[.pointer (some ⟨p, 0, none⟩), .int .i64 ((lo : Int) + k)] (wr.drewN m) fun e w'' => e = .returned (.bool true) ∧ ∃ q, w'' = wr.drewN q := fun m => by
                      have := has_any ((HS6.out.1.kps HDk.out.kp).kps ((Kp.refl wr).drewN m)).bf ((lo : Int) + k)
                      rw [show (lo : Int) + k = ((lo + k : Nat) : Int) by omega, hasF_nat] at this
                      rw [show ((lo + k : Nat) : Int) = (lo : Int) + k by omega, HF1.out] at this
                      exact this.mono fun e w'' ⟨a, c⟩ => ⟨a, c.drewN⟩
                    rw [hbt] at cw
                    clear hbt HF1
                    go_wp2_with fail
                    go_quiet (first | (go_at_call 17; go_must (exact k7 _)))
                    go_wp2
                    clear e5
                    go_roundg (n + 1 - (k + 1))
                    case measure => omega
                    case rel => exact ⟨k + 1, by go_num, by omega, by omega, HD2.out _⟩
              · have d1 : ¬ (f : Int) ≤ (lo : Int) + k := by omega
                cases hbt : F (lo + k)
                · have HF1 : Hid (F1 (lo + k) = false) := by
                    show F1 (lo + k) = false
                    rw [HA.out.2, hbt]; rfl
                  have k7 : ∀ m, Calls Tryd.prog 17 #[.pointer (some ⟨p, 0, none⟩), .int .i64 ((lo : Int) + k)] (wr.drewN m) fun e w'' => e = .returned (.bool false) ∧ ∃ q, w'' = wr.drewN q := fun m => by
                    have := has_any ((HS6.out.1.kps HDk.out.kp).kps ((Kp.refl wr).drewN m)).bf ((lo : Int) + k)
                    rw [show (lo : Int) + k = ((lo + k : Nat) : Int) by omega, hasF_nat] at this
                    rw [show ((lo + k : Nat) : Int) = (lo : Int) + k by omega, HF1.out] at this
                    exact this.mono fun e w'' ⟨a, c⟩ => ⟨a, c.drewN⟩
                  rw [hbt] at cw
                  clear hbt HF1
                  go_wp2_with fail
                  go_quiet (first | (go_at_call 17; go_must (exact k7 _)))
                  go_wp2
                  go_roundg (n + 1 - (k + 1))
                  case measure => omega
                  case rel => exact ⟨k + 1, by go_num, by omega, by omega, HD2.out _⟩
                · have HF1 : Hid (F1 (lo + k) = true) := by
                    show F1 (lo + k) = true
                    rw [HA.out.2, decide_eq_false (fun z => c1 z.1), hbt]; rfl
                  have k7 : ∀ m, Calls Tryd.prog 17 #[.pointer (some ⟨p, 0, none⟩), .int .i64 ((lo : Int) + k)] (wr.drewN m) fun e w'' => e = .returned (.bool true) ∧ ∃ q, w'' = wr.drewN q := fun m => by
                    have := has_any ((HS6.out.1.kps HDk.out.kp).kps ((Kp.refl wr).drewN m)).bf ((lo : Int) + k)
                    rw [show (lo : Int) + k = ((lo + k : Nat) : Int) by omega, hasF_nat] at this
                    rw [show ((lo + k : Nat) : Int) = (lo : Int) + k by omega, HF1.out] at this
                    exact this.mono fun e w'' ⟨a, c⟩ => ⟨a, c.drewN⟩
                  rw [hbt] at cw
                  clear hbt HF1
                  go_wp2_with fail
                  go_quiet (first | (go_at_call 17; go_must (exact k7 _)))
                  go_wp2
                  go_roundg (n + 1 - (k + 1))
                  case measure => omega
                  case rel => exact ⟨k + 1, by go_num, by omega, by omega, HD2.out _⟩
            · have ek : k = n := by omega
              subst ek
              have kt := told_any (HT.out.kp (HS6.out.1.kps HDk.out.kp).kp)
              have HK : Hid (Kp w wr) := (HS6.out.1.kps HDk.out.kp).kp
              clear HS6 HDk
              go_wp2_with fail
              with_reducible refine kt.mono ?_
              rintro e w9 ⟨rfl, K9⟩
              have HK2 : Hid (Kp w w9) := HK.out.trans K9
              clear K9 kt HK
              go_wp2
              go_ret
              exact ⟨rfl, HK2.out⟩
        · have BFo := S6.out.1.bf
          have hwant := bst_no BFo t
          rw [← HL2.out.1, HLN.out] at hwant
          have k3 := take_no BFo o (by omega) t
          rw [hwant]
          have HS6 : Hid (BU w B U wc p lo (lo + n) F ∧ ON wc b n (fun x => F (lo + x))) := S6
          clear BFo hwant t HL2 HLN S6 HBb
          go_wp2_with fail
          with_reducible refine k3.mono ?_
          rintro e w' ⟨rfl, rfl⟩
          clear k3
          go_wp2_with fail
          go_loopg [21] (n + 1) (fun g v21 wq => ∃ (k : Nat), v21 = .int .i64 (k : Int) ∧ k ≤ n ∧ n + 1 - k ≤ g ∧ Hid (Dr w' wq))
          case atStart => exact ⟨0, rfl, by omega, by omega, Dr.refl _⟩
          case round =>
            obtain ⟨k, rfl, hk, hgk, HDk⟩ := hrel
            by_cases hkn : k < n
            · have y4 : (k : Int) < n := by omega
              have cw : wr.cell? ⟨b, k, none⟩ = some (.bool (F (lo + k))) := (HDk.out.kp.cell (p := ⟨b, k, none⟩) HS6.out.2.lt).trans (HS6.out.2.cell k hkn)
              have HD2 : Aside (∀ n, Dr w' (wr.drewN n)) := fun n => HDk.out.trans ⟨n, rfl⟩
              cases hbt : F (lo + k)
              · have HF1 : Hid (F (lo + k) = false) := by
                  show F (lo + k) = false
                  exact hbt
                have k7 : ∀ m, Calls Tryd.prog 17 #[.pointer (some ⟨p, 0, none⟩), .int .i64 ((lo : Int) + k)] (wr.drewN m) fun e w'' => e = .returned (.bool false) ∧ ∃ q, w'' = wr.drewN q := fun m => by
                  have := has_any ((HS6.out.1.kps HDk.out.kp).kps ((Kp.refl wr).drewN m)).bf ((lo : Int) + k)
                  rw [show (lo : Int) + k = ((lo + k : Nat) : Int) by omega, hasF_nat] at this
                  rw [show ((lo + k : Nat) : Int) = (lo : Int) + k by omega, HF1.out] at this
                  exact this.mono fun e w'' ⟨a, c⟩ => ⟨a, c.drewN⟩
                rw [hbt] at cw
                clear hbt HF1
                go_wp2_with fail
                go_quiet (first | (go_at_call 17; go_must (exact k7 _)))
                go_wp2
                go_roundg (n + 1 - (k + 1))
                case measure => omega
                case rel => exact ⟨k + 1, by go_num, by omega, by omega, HD2.out _⟩
              · have HF1 : Hid (F (lo + k) = true) := by
                  show F (lo + k) = true
                  exact hbt
                have k7 : ∀ m, Calls Tryd.prog 17 #[.pointer (some ⟨p, 0, none⟩), .int .i64 ((lo : Int) + k)] (wr.drewN m) fun e w'' => e = .returned (.bool true) ∧ ∃ q, w'' = wr.drewN q := fun m => by
                  have := has_any ((HS6.out.1.kps HDk.out.kp).kps ((Kp.refl wr).drewN m)).bf ((lo : Int) + k)
                  rw [show (lo : Int) + k = ((lo + k : Nat) : Int) by omega, hasF_nat] at this
                  rw [show ((lo + k : Nat) : Int) = (lo : Int) + k by omega, HF1.out] at this
                  exact this.mono fun e w'' ⟨a, c⟩ => ⟨a, c.drewN⟩
                rw [hbt] at cw
                clear hbt HF1
                go_wp2_with fail
                go_quiet (first | (go_at_call 17; go_must (exact k7 _)))
                go_wp2
                go_roundg (n + 1 - (k + 1))
                case measure => omega
                case rel => exact ⟨k + 1, by go_num, by omega, by omega, HD2.out _⟩
            · have ek : k = n := by omega
              subst ek
              have kt := told_any (HT.out.kp (HS6.out.1.kps HDk.out.kp).kp)
              have HK : Hid (Kp w wr) := (HS6.out.1.kps HDk.out.kp).kp
              clear HS6 HDk
              go_wp2_with fail
              with_reducible refine kt.mono ?_
              rintro e w9 ⟨rfl, K9⟩
              have HK2 : Hid (Kp w w9) := HK.out.trans K9
              clear K9 kt HK
              go_wp2
              go_ret
              exact ⟨rfl, HK2.out⟩
theorem bleast_any (a0 a1 a3 : Int) (nc : Option Addr) (mc capc : Nat) (V : Nat → Int × Int × Int) (w : World) (C : Steps w nc mc V) (T : TAB w) :
    Calls Tryd.prog 7 #[.int .i64 a0, .int .i64 a1, .slice nc mc capc, .int .i64 a3] w fun e w' => e = .returned (.bool true) ∧ Kp w w' := by
  obtain ⟨lo, m, r, n, e1, e2, e3, e4, h1, h2, h3, _⟩ := few7 a0 a1
  exact least_walk a0 a1 a3 lo m r n nc mc capc V w C T e1 e2 e3 e4 h1 h2 h3
end Go.Proofs.YtlclpnaaaiimaaaDoor
