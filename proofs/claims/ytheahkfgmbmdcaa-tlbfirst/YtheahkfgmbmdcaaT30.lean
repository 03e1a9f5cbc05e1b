/- TlbFirst: its walk. -/
import Derived.Test.YtheahkfgmbmdcaaT12
import Derived.Test.YtheahkfgmbmdcaaT13
import Derived.Test.YtheahkfgmbmdcaaT28
import Derived.Test.YtheahkfgmbmdcaaT29
import Derived.Deep.RegionHeld3
namespace Go.Proofs.Ytheahkfgmbmdcaa
open Go.RowKit
set_option maxRecDepth 10000

structure FZt (W w : World) (b g s k B : Nat) (vl : Value) (T : Nat → PC) (pl : List LN) : Prop where
  tp : TP w b g s k T
  ll : LL w B vl pl
  k : Kp W w
  hg : W.heap.size ≤ g
  hB : W.heap.size ≤ B
  bB : b < B
  gB : g < B
  lw : B ≤ w.heap.size
theorem FZt.kp {W w w' : World} {b g s k B : Nat} {vl : Value} {T : Nat → PC} {pl : List LN} (h : FZt W w b g s k B vl T pl) (f : Kp w w') : FZt W w' b g s k B vl T pl := ⟨h.tp.kp f, h.ll.kp f, h.k.trans f, h.hg, h.hB, h.bB, h.gB, Nat.le_trans h.lw f.size⟩
theorem FZt.st {W w w' : World} {b g s k B : Nat} {vl : Value} {T T' : Nat → PC} {pl : List LN} (h : FZt W w b g s k B vl T pl) (t : TP w' b g s k T') (f : Fr (· = g) w w') : FZt W w' b g s k B vl T' pl :=
  ⟨t, h.ll.fr f (fun x h1 _ h3 => by have := h.gB; omega), f.kp h.k (fun x hx => by have := h.hg; omega), h.hg, h.hB, h.bB, h.gB, Nat.le_trans h.lw f.size⟩

theorem fz_A {W w3 w4 : World} {b g s k B b13 : Nat} {vl : Value} {T T' : Nat → PC} {pl : List LN} {t : TypeId} {V : List Value} (h : FZt W w3 b g s k B vl T pl) (X : RX w3 b13 t V) (n : b13 ≠ g) (lo : LN) (F : Fr (· = g) w3.drew w4) (T4 : TP w4 b g s k T') :
    FZt W (w4.alloc (.cells (encL lo).toArray 34)) b g s k B vl T' pl ∧ RX (w4.alloc (.cells (encL lo).toArray 34)) b13 t V ∧ RX (w4.alloc (.cells (encL lo).toArray 34)) w4.heap.size 34 (encL lo) :=
  ⟨((h.kp (Kp.refl w3).drew).st T4 F).kp ((Kp.refl w4).alloc _), (((X.kp (Kp.refl w3).drew).fr F n).kp ((Kp.refl w4).alloc _)), RX.made w4 _ _⟩
theorem fz_B {W w3 w4 : World} {b g s k B b13 : Nat} {vl : Value} {T T' : Nat → PC} {pl : List LN} {t : TypeId} {V : List Value} {O : Obj} (h : FZt W w3 b g s k B vl T pl) (X : RX w3 b13 t V) (n : b13 ≠ g) (lo : LN) (F : Fr (· = g) (w3.alloc O).drew w4) (T4 : TP w4 b g s k T') (Y : RX w4 w3.heap.size 34 (encL zL)) (gb : g < w3.heap.size) :
    FZt W (putR w4 w3.heap.size 0 (encL lo)) b g s k B vl T' pl ∧ RX (putR w4 w3.heap.size 0 (encL lo)) b13 t V ∧ RX (putR w4 w3.heap.size 0 (encL lo)) w3.heap.size 34 (encL lo) := by
  have K : Kp w3 (w3.alloc O).drew := ((Kp.refl w3).alloc O).drew
  have h4 := (h.kp K).st T4 F
  have F8 : Fr (· = w3.heap.size) w4 (putR w4 w3.heap.size 0 (encL lo)) := putR_fr _ _ _ _
  have bl := h.tp.bl
  have x1 := X.lt
  have FF : Fr (fun x => x = g ∨ x = w3.heap.size) w3 (putR w4 w3.heap.size 0 (encL lo)) := ((K.fr _).trans (F.mono fun _ _ e => .inl e)).trans (F8.mono fun _ _ e => .inr e)
  have l8 : LL (putR w4 w3.heap.size 0 (encL lo)) B vl pl := ⟨h.ll.ol.fr FF (fun x hx c => by have := h.ll.up x hx; have := h.gB; omega), fun x hx => ⟨(h.ll.up x hx).1, Nat.lt_of_lt_of_le (h.ll.up x hx).2 FF.size⟩⟩
  exact ⟨⟨h4.tp.fr F8 (by omega) (by omega), l8, F8.kp h4.k (fun i hi => by have := h.k.size; omega), h.hg, h.hB, h.bB, h.gB, Nat.le_trans h.lw FF.size⟩, (((X.kp K).fr F n).fr F8 (by omega)), Y.put (U := encL lo) rfl⟩

theorem sets_pow (a : Int) : ∃ (m e s : Nat), bits .and .i64 a 7 = (m : Int) ∧ (m : Int).tmod 7 = (e : Int) ∧ m ≤ 7 ∧ e ≤ 6 ∧ (2 : Int) ^ e = (s : Int) ∧ pwB (s : Int) = true := by
  obtain ⟨m, h1, h2⟩ := and_lim a 7 (by decide)
  refine ⟨m, m % 7, 2 ^ (m % 7), h1, by rfl, h2, by omega, by simp, ?_⟩
  rcases (by omega : m = 0 ∨ m = 1 ∨ m = 2 ∨ m = 3 ∨ m = 4 ∨ m = 5 ∨ m = 6 ∨ m = 7) with rfl | rfl | rfl | rfl | rfl | rfl | rfl | rfl <;> rfl

set_option maxHeartbeats 16000000 in
theorem first_any (a0 a1 : Int) (na : Option Addr) (mc cap : Nat) (wf : Nat → Int) (w : World) (hO : NSK .i64 w na mc wf) :
    Calls Try.prog 6 #[.int .i64 a0, .int .i64 a1, .slice na mc cap] w fun e w' => e = .returned (.bool true) ∧ Kp w w' := by
  obtain ⟨m, e, s, h1, h2, h3, h4, h5, hp⟩ := sets_pow a0
  obtain ⟨m7, h6, h7⟩ : ∃ m7 : Nat, bits .and .i64 a1 7 = (m7 : Int) ∧ m7 ≤ 7 := and_lim a1 7 (by decide)
  have r := pw_range hp
  obtain ⟨k, hk⟩ : ∃ k, m7 + 1 = k := ⟨_, rfl⟩
  have h8 : (1 : Int) + (m7 : Int) = (k : Int) := by omega
  have c1 := tnew_ok s k w hp (by omega) (by omega)
  have cT := ttold_any
  obtain ⟨b, hb⟩ : ∃ b, b = w.heap.size + 1 := ⟨_, rfl⟩
  obtain ⟨g, hg⟩ : ∃ g, g = w.heap.size := ⟨_, rfl⟩
  rw [← hb, ← hg] at c1
  have HG : Hid (b = w.heap.size + 1 ∧ g = w.heap.size) := ⟨hb, hg⟩
  have HO : Hid (NSK .i64 w na mc wf) := hO
  have HP : Hid (1 ≤ s ∧ s ≤ 64 ∧ 1 ≤ k ∧ k ≤ 8) := by show _ ∧ _; omega
  clear hb hg hp hO hk r
  have z1 : (s : Int) ≤ 64 := by have := HP.out; omega
  have z2 : (e : Int) ≤ 6 := by omega
  have z3 : (m : Int) ≤ 7 := by omega
  have z4 : (m7 : Int) ≤ 7 := by omega
  go_enter Try.func6, Try.ntmps6
  go_wp2_with fail
  with_reducible refine c1.mono ?_
  rintro e w1 ⟨rfl, T1, K1⟩
  have I0 : Hid (FZt w w1 b g s k w1.heap.size (.slice none 0 0) (plT []) []) := ⟨T1, LL.nil _ _, K1, by rw [HG.out.2]; exact Nat.le_refl _, K1.size, T1.bl, T1.row.lt, Nat.le_refl _⟩
  clear c1 T1 K1 HG h1 h2 h3 h4 h5 h6 h7 h8 z2 z3 z4
  go_upto_block 0 with fail
  obtain ⟨B, hB⟩ : ∃ B, B = w1.heap.size := ⟨_, rfl⟩
  rw [← hB] at I0
  clear hB
  go_cut [11] (fun v11 wx => ∃ pl, pl.length ≤ k ∧ Hid (FZt w wx b g s k B v11 (plT pl) pl))
  case first =>
    go_wp2_with fail
    go_loopg [11, 12] 21 (fun gk v11 v12 wr => ∃ (i : Nat) (pl : List LN), v12 = .int .i64 (i : Int) ∧ i ≤ 20 ∧ 21 - i ≤ gk ∧ pl.length ≤ k ∧ Hid (FZt w wr b g s k B v11 (plT pl) pl ∧ ∀ x ∈ pl, ∃ j, j < i ∧ x.v = j * s))
    case atStart => exact ⟨0, [], rfl, by omega, by omega, Nat.zero_le _, I0, fun x hx => by cases hx⟩
    case round =>
      clear I0
      obtain ⟨i, pl, rfl, hi, hgk, pk, HI⟩ := hrel
      by_cases hlt : i < mc ∧ i < 20
      · have y1 : (i : Int) < mc := by omega
        have y2 : (i : Int) < 20 := by omega
        obtain ⟨⟨cb, co, rfl, hcb, ccw⟩, _⟩ := (HO.out.kp HI.out.1.k) i hlt.1
        obtain ⟨⟨cb', co', hee, hcb2, _⟩, _⟩ := HO.out i hlt.1
        cases hee
        obtain ⟨c, hc⟩ : ∃ c, i * s = c := ⟨_, rfl⟩
        have hc1 : (i : Int) * (s : Int) = (c : Int) := by rw [← hc]; exact (Int.natCast_mul i s).symm
        have hc2 : c ≤ 1280 := by rw [← hc]; exact Nat.le_trans (Nat.mul_le_mul (show i ≤ 20 by omega) HP.out.2.1) (by decide)
        have HC : Hid (i * s = c ∧ c % s = 0) := ⟨hc, by rw [← hc, Nat.mul_comm]; exact Nat.mul_mod_right s i⟩
        have y3 : (c : Int) ≤ 1280 := by omega
        clear hc hc2
        go_upto_region 10 with fail
        obtain ⟨w3, hw3⟩ : ∃ w3, w3 = wr.alloc (.cells #[.int .i64 1, .int .i64 0, .int .u64 (c : Int), .int .u64 0, .int .i64 (i : Int), .bool false, .bool false, .bool false, .bool false, .bool false, .bool false] 34) := ⟨_, rfl⟩
        obtain ⟨b13, hb13⟩ : ∃ b13, b13 = wr.heap.size := ⟨_, rfl⟩
        rw [← hw3, ← hb13]
        have K3 : Kp wr w3 := by rw [hw3]; exact (Kp.refl wr).alloc _
        have X3 : RX w3 b13 34 [.int .i64 1, .int .i64 0, .int .u64 (c : Int), .int .u64 0, .int .i64 (i : Int), .bool false, .bool false, .bool false, .bool false, .bool false, .bool false] := by rw [hw3, hb13]; exact RX.made wr _ _
        obtain ⟨l, hl⟩ : ∃ l : LN, l = ⟨1, 0, c, 0, (i : Int), false, false, false, false, false, false⟩ := ⟨_, rfl⟩
        obtain ⟨idx, hidx⟩ : ∃ idx, filI (plT pl) s k l (wf i) = idx := ⟨_, rfl⟩
        obtain ⟨C, hC⟩ : ∃ C, plT pl idx = C := ⟨_, rfl⟩
        obtain ⟨on, lo⟩ := C
        have CF : Aside (∀ v, Kp w3 v → Calls Try.prog 9 #[.pointer (some ⟨b, 0, none⟩), .agg #[.int .i64 1, .int .i64 0, .int .u64 (c : Int), .int .u64 0, .int .i64 (i : Int), .bool false, .bool false, .bool false, .bool false, .bool false, .bool false], .int .i64 (wf i)] v fun e w' => e = .returned (.tuple #[lnV lo, .bool on]) ∧ TP w' b g s k (updP (plT pl) idx ⟨true, l⟩) ∧ Fr (· = g) v w') := fun v kv => by
          have := fill_any ((HI.out.1.tp.kp K3).kp kv) l (wf i)
          rw [hidx, hC, hl] at this
          rw [hl]
          exact this
        have CF2 := CF
        simp only [lnV] at CF2
        clear CF
        have o0 := X3.cell (j := 0) rfl
        have o1 := X3.cell (j := 1) rfl
        have o2 := X3.cell (j := 2) rfl
        have o3 := X3.cell (j := 3) rfl
        have o4 := X3.cell (j := 4) rfl
        have o5 := X3.cell (j := 5) rfl
        have o6 := X3.cell (j := 6) rfl
        have o7 := X3.cell (j := 7) rfl
        have o8 := X3.cell (j := 8) rfl
        have o9 := X3.cell (j := 9) rfl
        have o10 := X3.cell (j := 10) rfl
        have ow : w3.cell? ⟨cb, co + i, none⟩ = some (.int .i64 (wf i)) := (K3.cell (p := ⟨cb, co + i, none⟩) hcb).trans ccw
        have HB13 : Hid (b13 = wr.heap.size) := hb13
        clear hw3 hb13
        have gb3 : g < w3.heap.size := (HI.out.1.tp.kp K3).row.lt
        have ZF : Hid (∀ w4, Fr (· = g) (w3.alloc (.cells #[.int .i64 0, .int .i64 0, .int .u64 0, .int .u64 0, .int .i64 0, .bool false, .bool false, .bool false, .bool false, .bool false, .bool false] 34)).drew w4 → RX w4 w3.heap.size 34 (encL zL)) := fun w4 F => ((RX.made w3 34 (encL zL)).kp (Kp.refl _).drew).fr F (by show ¬ w3.heap.size = g; omega)
        have KA : Kp w3 (w3.alloc (.cells #[.int .i64 0, .int .i64 0, .int .u64 0, .int .u64 0, .int .i64 0, .bool false, .bool false, .bool false, .bool false, .bool false, .bool false] 34)) := (Kp.refl w3).alloc _
        have p0 := (X3.kp KA).cell (j := 0) rfl
        have p1 := (X3.kp KA).cell (j := 1) rfl
        have p2 := (X3.kp KA).cell (j := 2) rfl
        have p3 := (X3.kp KA).cell (j := 3) rfl
        have p4 := (X3.kp KA).cell (j := 4) rfl
        have p5 := (X3.kp KA).cell (j := 5) rfl
        have p6 := (X3.kp KA).cell (j := 6) rfl
        have p7 := (X3.kp KA).cell (j := 7) rfl
        have p8 := (X3.kp KA).cell (j := 8) rfl
        have p9 := (X3.kp KA).cell (j := 9) rfl
        have p10 := (X3.kp KA).cell (j := 10) rfl
        have pw : (w3.alloc (.cells #[.int .i64 0, .int .i64 0, .int .u64 0, .int .u64 0, .int .i64 0, .bool false, .bool false, .bool false, .bool false, .bool false, .bool false] 34)).cell? ⟨cb, co + i, none⟩ = some (.int .i64 (wf i)) := (KA.cell (p := ⟨cb, co + i, none⟩) (Nat.lt_of_lt_of_le hcb K3.size)).trans ow
        clear KA
        have HI3 : Hid (FZt w w3 b g s k B u11 (plT pl) pl ∧ RX w3 b13 34 [.int .i64 1, .int .i64 0, .int .u64 (c : Int), .int .u64 0, .int .i64 (i : Int), .bool false, .bool false, .bool false, .bool false, .bool false, .bool false] ∧ b13 ≠ g ∧ g < w3.heap.size) := ⟨HI.out.1.kp K3, X3, by have := HI.out.1.tp.row.lt; have := HB13.out; omega, gb3⟩
        have HD : Hid (filI (plT pl) s k l (wf i) = idx ∧ plT pl idx = ⟨on, lo⟩) := ⟨hidx, hC⟩
        have HL : Hid (l = ⟨1, 0, c, 0, (i : Int), false, false, false, false, false, false⟩) := hl
        clear K3 X3 gb3 hidx hC hl
        go_cut [14, 15] (fun v14 v15 wx => ∃ bx, v14 = .pointer (some ⟨bx, 0, none⟩) ∧ v15 = .bool on ∧ Hid (FZt w wx b g s k B u11 (updP (plT pl) idx ⟨true, l⟩) pl ∧ RX wx b13 34 [.int .i64 1, .int .i64 0, .int .u64 (c : Int), .int .u64 0, .int .i64 (i : Int), .bool false, .bool false, .bool false, .bool false, .bool false, .bool false] ∧ RX wx bx 34 (encL lo)))
        case first =>
          go_region_with (first | (go_at_call 9; first | (with_reducible refine (CF2.out _ (by exact (Kp.refl _).drew)).mono ?_; rintro e w4 ⟨rfl, T4, F4⟩) | (with_reducible refine (CF2.out _ (by exact ((Kp.refl _).alloc _).drew)).mono ?_; rintro e w4 ⟨rfl, T4, F4⟩; have Y4 := ZF.out _ F4; have fy := Y4.fz; have e0 := Y4.cell (j := 0) rfl; have e1 := Y4.cell (j := 1) rfl; have e2 := Y4.cell (j := 2) rfl; have e3 := Y4.cell (j := 3) rfl; have e4 := Y4.cell (j := 4) rfl; have e5 := Y4.cell (j := 5) rfl; have e6 := Y4.cell (j := 6) rfl; have e7 := Y4.cell (j := 7) rfl; have e8 := Y4.cell (j := 8) rfl; have e9 := Y4.cell (j := 9) rfl; have e10 := Y4.cell (j := 10) rfl)))
          all_goals go_wp2_with fail
          all_goals go_meet
          all_goals first | (have Y5 := Y4; rw [← putR_11z]; exact ⟨w3.heap.size, rfl, rfl, fz_B HI3.out.1 HI3.out.2.1 HI3.out.2.2.1 lo F4 T4 Y5 HI3.out.2.2.2⟩) | exact ⟨w4.heap.size, rfl, rfl, fz_A HI3.out.1 HI3.out.2.1 HI3.out.2.2.1 lo F4 T4⟩
        case rest =>
          obtain ⟨bx, rfl, rfl, HX⟩ := hcut
          clear HI3 ZF o0 o1 o2 o3 o4 o5 o6 o7 o8 o9 o10 p0 p1 p2 p3 p4 p5 p6 p7 p8 p9 p10 ow pw CF2
          obtain ⟨nl, cl, hee, _⟩ := HX.out.1.ll.form
          subst hee
          obtain ⟨pn, hpn⟩ : ∃ pn, pl.length = pn := ⟨_, rfl⟩
          have hnew : ∀ x ∈ pl, x.v ≠ l.v := fun x hx e => by
            obtain ⟨j, j1, j2⟩ := HI.out.2 x hx
            rw [HL.out] at e
            have e2 : j * s = i * s := by rw [← j2, HC.out.1]; exact e
            have := Nat.eq_of_mul_eq_mul_right (by have := HP.out; omega) e2
            omega
          have hf := pl_fill (s := s) (k := k) (l := l) (way := wf i) (by rw [HL.out]; exact HC.out.2) pk hnew
          rw [HD.out.1, hpn] at hf
          rw [hpn] at pk ⊢
          have hmem : Hid (∀ x, (x = l ∨ x ∈ pl) → ∃ j, j < i + 1 ∧ x.v = j * s) := fun x hx => by
            rcases hx with e | e
            · exact ⟨i, by omega, by rw [e, HL.out, HC.out.1]⟩
            · obtain ⟨j, j1, j2⟩ := HI.out.2 x e
              exact ⟨j, by omega, j2⟩
          have HPN : Hid (pl.length = pn) := hpn
          by_cases pk2 : pn < k
          · rw [if_pos pk2] at hf
            have hC := HD.out.2
            rw [hf, plT_out (by omega)] at hC
            cases hC
            have X13 := HX.out.2.1
            obtain ⟨v', w5, r1, r2, r3, r4⟩ := HX.out.1.ll.snoc HX.out.1.lw l (by have := HP.out; have := HPN.out; omega)
            have HX2 : Hid (FZt w w5 b g s k B v' (plT (pl ++ [l])) (pl ++ [l])) := by
              refine ⟨?_, r2, r3 w HX.out.1.hB HX.out.1.k, HX.out.1.hg, HX.out.1.hB, HX.out.1.bB, HX.out.1.gB, Nat.le_trans HX.out.1.lw r4.size⟩
              rw [← plT_snoc, HPN.out, ← hf]
              exact HX.out.1.tp.fr r4 (fun c => by have := (HX.out.1.ll.up _ c).1; have := HX.out.1.bB; omega) (fun c => by have := (HX.out.1.ll.up _ c).1; have := HX.out.1.gB; omega)
            rw [HL.out, HPN.out] at r1
            dsimp only at r1
            rw [show ((0 : Nat) : Int) = 0 from rfl] at r1
            have o0 := X13.cell (j := 0) rfl
            have o1 := X13.cell (j := 1) rfl
            have o2 := X13.cell (j := 2) rfl
            have o3 := X13.cell (j := 3) rfl
            have o4 := X13.cell (j := 4) rfl
            have o5 := X13.cell (j := 5) rfl
            have o6 := X13.cell (j := 6) rfl
            have o7 := X13.cell (j := 7) rfl
            have o8 := X13.cell (j := 8) rfl
            have o9 := X13.cell (j := 9) rfl
            have o10 := X13.cell (j := 10) rfl
            have y5 : ((pn : Int) == (k : Int)) = false := by rw [beq_eq_false_iff_ne]; omega
            have y6 : (pn == k) = false := by rw [beq_eq_false_iff_ne]; omega
            have HM : Hid (pn + 1 ≤ k ∧ (pl ++ [l]).length ≤ k ∧ ∀ x ∈ pl ++ [l], ∃ j, j < i + 1 ∧ x.v = j * s) := ⟨pk2, by rw [List.length_append, HPN.out]; exact pk2, fun x hx => hmem.out x (by rcases List.mem_append.1 hx with e | e; exact .inr e; exact .inl (by simpa using e))⟩
            clear X13 r2 r3 r4 HX HD hf HPN hmem HI HL HC hnew
            repeat' (first | ((with_reducible refine wp_append_of r1 (.tmp 71) (.tmp 73) ?_ ?_ ?_ ?_ ?_); rfl; rfl; rfl; rfl) | go_values | go_skip | go_guarded | go_step | go_upon | go_back | (simp only []) | (go_values <;> (try go_simp)) | (go_ite <;> go_prune <;> (try go_simp)))
            go_roundg (21 - (i + 1))
            case measure => omega
            case rel => exact ⟨i + 1, pl ++ [l], by go_num, by omega, by omega, HM.out.2.1, HX2, HM.out.2.2⟩
          · rw [if_neg pk2] at hf
            have pe : pn = k := by omega
            obtain ⟨t, mo, m1, m2, m3, m4, m5⟩ := place_of (wf i) k (by have := HP.out; omega)
            have em : mdN (wf i) k = mo := by unfold mdN; rw [m1, m4]; rfl
            rw [em] at hf
            subst hf
            obtain ⟨z, hz⟩ : ∃ z, pl[idx]? = some z := ⟨_, List.getElem?_eq_getElem (by omega)⟩
            have hC := HD.out.2
            rw [plT_in hz] at hC
            cases hC
            obtain ⟨nl', cl', hee, fw⟩ := HX.out.1.ll.form
            cases hee
            obtain ⟨gl, rfl, _, gB2, cc⟩ := fw idx lo hz
            have X13 := HX.out.2.1
            have X14 := HX.out.2.2
            have x0 := X14.cell (j := 0) rfl
            have x1 := X14.cell (j := 1) rfl
            have x2 := X14.cell (j := 2) rfl
            have x3 := X14.cell (j := 3) rfl
            have x4 := X14.cell (j := 4) rfl
            have x5 := X14.cell (j := 5) rfl
            have x6 := X14.cell (j := 6) rfl
            have x7 := X14.cell (j := 7) rfl
            have x8 := X14.cell (j := 8) rfl
            have x9 := X14.cell (j := 9) rfl
            have x10 := X14.cell (j := 10) rfl
            have z0 := cc 0 _ rfl
            have z1 := cc 1 _ rfl
            have z2 := cc 2 _ rfl
            have z3 := cc 3 _ rfl
            have z4 := cc 4 _ rfl
            have z5 := cc 5 _ rfl
            have z6 := cc 6 _ rfl
            have z7 := cc 7 _ rfl
            have z8 := cc 8 _ rfl
            have z9 := cc 9 _ rfl
            have z10 := cc 10 _ rfl
            simp only [Nat.add_zero] at z0
            have ow : wc.cell? ⟨cb, co + i, none⟩ = some (.int .i64 (wf i)) := by
              obtain ⟨⟨cb', co', hee, _, h2⟩, _⟩ := (HO.out.kp HX.out.1.k) i hlt.1
              cases hee
              exact h2
            have q1 : ∀ w, (Op.equalIn 10000 34 (lnV lo) (lnV lo)).run Try.prog w = .ok true w := fun w => by rw [eq_line, samL_refl]
            simp only [lnV] at q1
            have y5 : ((pn : Int) == (k : Int)) = true := by rw [beq_iff_eq]; omega
            have y6 : (pn == k) = true := by rw [beq_iff_eq]; omega
            have y7 : (idx : Int) < pn := by omega
            have y8 : (pn : Int) ≤ 8 := by have := HP.out; omega
            have y9 : (k : Int) ≤ 8 := by have := HP.out; omega
            have yz : ¬ (k : Int) = 0 := by have := HP.out; omega
            have yz2 : ¬ k = 0 := by have := HP.out; omega
            clear fw cc hnew em
            have frz := HX.out.1.ll.ol.frz
            have e1 : (idx : Int).toNat = idx := Int.toNat_natCast idx
            have HX2 : Hid (∀ nq, FZt w (putR (wc.drewN nq) gl (idx * 11) (encL l)) b g s k B (.slice (some ⟨gl, 0, none⟩) pn cl) (plT (pl.set idx l)) (pl.set idx l)) := fun nq => by
              have epn := HPN.out
              subst epn
              have Kq : Kp wc (wc.drewN nq) := (Kp.refl wc).drewN nq
              have hq := HX.out.1.kp Kq
              have L3 := hq.ll.put (i := idx) (by have := HPN.out; omega) l
              refine ⟨?_, L3.1, L3.2.kp hq.k (fun x hx => by have := hq.hB; omega), hq.hg, hq.hB, hq.bB, hq.gB, Nat.le_trans hq.lw L3.2.size⟩
              rw [← plT_set pl idx l (by have := HPN.out; omega)]
              exact hq.tp.fr L3.2 (by have := hq.bB; omega) (by have := hq.gB; omega)
            have HM : Hid ((pl.set idx l).length ≤ k ∧ ∀ x ∈ pl.set idx l, ∃ j, j < i + 1 ∧ x.v = j * s) := ⟨by rw [List.length_set, HPN.out]; exact pk, fun x hx => hmem.out x (pl_names hx)⟩
            have HL2 : Hid (encL l = [.int .i64 1, .int .i64 0, .int .u64 (c : Int), .int .u64 0, .int .i64 (i : Int), .bool false, .bool false, .bool false, .bool false, .bool false, .bool false]) := by rw [HL.out]; rfl
            have o0 := X13.cell (j := 0) rfl
            have o1 := X13.cell (j := 1) rfl
            have o2 := X13.cell (j := 2) rfl
            have o3 := X13.cell (j := 3) rfl
            have o4 := X13.cell (j := 4) rfl
            have o5 := X13.cell (j := 5) rfl
            have o6 := X13.cell (j := 6) rfl
            have o7 := X13.cell (j := 7) rfl
            have o8 := X13.cell (j := 8) rfl
            have o9 := X13.cell (j := 9) rfl
            have o10 := X13.cell (j := 10) rfl
            clear HX HD HPN hmem HI HL HC X13 X14
            go_upto_region 16 with fail
            go_quiet (fail)
            go_wp2_with fail
            rw [← putR_11, ← HL2.out]
            go_roundg (21 - (i + 1))
            case measure => omega
            case rel => exact ⟨i + 1, pl.set idx l, by go_num, by omega, by omega, HM.out.1, HX2.out _, HM.out.2⟩
      · have HI2 : Hid (FZt w wr b g s k B u11 (plT pl) pl) := HI.out.1
        clear HI
        by_cases hm : i < mc
        · have ei : i = 20 := by omega
          subst ei
          have y1 : (20 : Int) < mc := by omega
          rw [show ((20 : Nat) : Int) = 20 from rfl]
          go_wp2_with fail
          go_meet
          case rel => exact ⟨pl, pk, HI2⟩
        · have y1 : ¬ (i : Int) < mc := by omega
          go_wp2_with fail
          go_meet
          case rel => exact ⟨pl, pk, HI2⟩
  case rest =>
    obtain ⟨pl, pk, HI⟩ := hcut
    clear I0 HO
    go_wp2_with fail
    with_reducible refine (cT _).mono ?_
    rintro e w5 ⟨rfl, K5⟩
    have A5 := HI.out.kp K5
    have cL := list_any A5.tp
    have el : lsT (plT pl) (s * k) = pl := by
      rw [lsT_pl, List.take_of_length_le]
      have := Nat.mul_le_mul_right k HP.out.1
      omega
    rw [el] at cL
    have HA : Hid (FZt w w5 b g s k B u11 (plT pl) pl) := A5
    clear K5 A5 HI cT el
    go_wp2_with fail
    with_reducible refine cL.mono ?_
    rintro e w6 ⟨⟨v6, rfl, L6⟩, K6⟩
    have cS := lines_same L6 (HA.out.ll.kp K6) (by have := HP.out; omega)
    have HK : Hid (Kp w w6) := HA.out.k.trans K6
    clear cL L6 K6 HA
    go_wp2_with fail
    with_reducible refine cS.mono ?_
    rintro e w7 ⟨rfl, D7⟩
    have HK2 : Hid (Kp w w7) := HK.out.trans D7.kp
    clear cS D7 HK
    go_wp2
    go_ret
    exact ⟨rfl, HK2.out⟩

end Go.Proofs.Ytheahkfgmbmdcaa
