/- LedgerOne. -/
import Derived.Test.YtjeahpekcbogeaaGB
import Derived.Test.YtjeahpekcbogeaaS3
import Derived.Test.YtjeahpekcbogeaaKB
import Derived.Deep.DeepCutAuto
import Derived.Deep.CutBlock
namespace Go.Proofs.Ytjeahpekcbogeaa
open Go.RowKit Go.Maps

variable {W w w' : World} {p bm N b1 b2 : Nat} {E : Int → Int × Int} {s q s3 q3 : Int}
/-! ### all states together -/
theorem fl_disj {F G : Int → Bool} (h : ∀ x, F x = true → G x = false) : ∀ n : Nat, (fl F n).length + (fl G n).length = (fl (fun x => F x || G x) n).length
  | 0 => rfl
  | n + 1 => by
    have ih := fl_disj h n
    have hn := h (n : Int)
    unfold fl
    cases hF : F (n : Int) <;> cases hG : G (n : Int) <;> simp [hF, hG] at hn ⊢ <;> omega
/-- How many have a state below j. -/
def tot (E : Int → Int × Int) (N : Nat) : Nat → Nat
  | 0 => 0
  | j + 1 => tot E N j + (lsE E N (j : Int) (-1)).length
theorem tot_eq (E : Int → Int × Int) (N : Nat) : ∀ j : Nat, tot E N j = (fl (fun x => decide (0 ≤ (E x).1 ∧ (E x).1 < (j : Int))) N).length
  | 0 => by
    rw [show (fun x => decide (0 ≤ (E x).1 ∧ (E x).1 < ((0 : Nat) : Int))) = fun _ => false from funext fun x => decide_eq_false (by omega), fl_none]; rfl
  | j + 1 => by
    unfold tot
    rw [tot_eq E N j]
    unfold lsE
    rw [fl_disj (fun x hx => ?_)]
    · congr 2
      funext x
      unfold isN
      rw [Bool.eq_iff_iff]
      simp
      omega
    · have := of_decide_eq_true hx
      unfold isN
      rw [decide_eq_false (by omega)]; rfl
theorem tot_all (h : VA E) : tot E N 7 = N := by
  rw [tot_eq, show (fun x => decide (0 ≤ (E x).1 ∧ (E x).1 < ((7 : Nat) : Int))) = fun _ => true from funext fun x => decide_eq_true (by
    have := h x
    unfold VE at this
    omega)]
  have := fl_len (fun _ => true) N
  rw [show (fun x : Int => !(fun _ => true) x) = fun _ => false from rfl, fl_none] at this
  simpa using this
theorem tot_le (E : Int → Int × Int) (N j : Nat) : tot E N j ≤ N := by rw [tot_eq]; exact fl_le _ _

/-- The ledger beside two boxes. -/
structure LY (W w : World) (p bm N : Nat) (E : Int → Int × Int) (b1 : Nat) (s q : Int) (b2 : Nat) (s3 q3 : Int) : Prop where
  lk : LK W w p bm N E
  x : NX w b1 s q
  y : NX w b2 s3 q3
  n1 : b1 ≠ bm
  n2 : b2 ≠ bm
theorem LY.kp (h : LY W w p bm N E b1 s q b2 s3 q3) (k : Kp w w') : LY W w' p bm N E b1 s q b2 s3 q3 := ⟨h.lk.kp k, h.x.kp k, h.y.kp k, h.n1, h.n2⟩
theorem LY.do (h : LY W w p bm N E b1 s q b2 s3 q3) (x a u : Int) (hx : (Lit.int .i64 x).wf = true) :
    Calls Try.prog 12 #[.pointer (some ⟨p, 0, none⟩), .int .i64 x, .int .i64 a, .int .i64 u] w fun e w' => e = .returned (.int .i64 (mayN N (E x) x a u)) ∧ LY W w' p bm N (doE N E x a u) b1 s q b2 s3 q3 :=
  (h.lk.do x a u hx).mono (fun _ _ ⟨h1, h2, h3⟩ => ⟨h1, h2, h.x.fr h3 h.n1, h.y.fr h3 h.n2, h.n1, h.n2⟩)
theorem LY.get (h : LY W w p bm N E b1 s q b2 s3 q3) (x a b : Int) (hx : (Lit.int .i64 x).wf = true) (he : E x = (a, b)) :
    Calls Try.prog 14 #[.pointer (some ⟨p, 0, none⟩), .int .i64 x] w fun e w' => e = .returned (.agg #[.int .i64 a, .int .i64 b]) ∧ LY W w' p bm N E b1 s q b2 s3 q3 ∧ Kp w w' :=
  (h.lk.get x a b hx he).mono (fun _ _ ⟨h1, _, h3⟩ => ⟨h1, h.kp h3, h3⟩)

set_option maxHeartbeats 16000000 in
set_option maxRecDepth 100000 in
theorem one_walk (a0 : Int) (m r n : Nat) (nc : Option Addr) (mc capc : Nat) (V : Nat → Int × Int × Int) (w : World) (C : Steps w nc mc V)
    (e1 : bits .and .i64 a0 63 = (m : Int)) (e2 : (m : Int).tmod 60 = (r : Int)) (e3 : 1 + (r : Int) = (n : Int)) (h1 : 1 ≤ n) (h2 : n ≤ 60) :
    Calls Try.prog 4 #[.int .i64 a0, .slice nc mc capc] w fun e w' => e = .returned (.bool true) ∧ Kp w w' := by
  have cN := lk_new w n w (Kp.refl w) h1 (by omega)
  have cT := ltold_any
  have CC : Aside (Steps w nc mc V) := C
  have z1 : (n : Int) ≤ 60 := by omega
  have z2 : (1 : Int) ≤ n := by omega
  have z4 : ¬ (n : Int) = 0 := by omega
  have H1 : Hid (1 ≤ n) := h1
  clear C h1 h2
  go_enter Try.func4, Try.ntmps4
  go_wp2_with fail
  with_reducible refine cN.mono ?_
  rintro e w1 ⟨p, bm, rfl, L1, _⟩
  have I0 : Hid (LK w w1 p bm n noE ∧ VA noE) := ⟨L1, va_no⟩
  clear cN L1 e1 e2 e3
  go_wp2_with fail
  go_loopg [7] 121 (fun g v7 wr => ∃ (i : Nat) (E : Int → Int × Int), v7 = .int .i64 (i : Int) ∧ i ≤ 120 ∧ 121 - i ≤ g ∧ Hid (LK w wr p bm n E ∧ VA E))
  case atStart => exact ⟨0, noE, rfl, by omega, by omega, I0⟩
  case round =>
    clear I0
    obtain ⟨i, E, rfl, hi, hg, HI⟩ := hrel
    by_cases hlt : i < mc ∧ i < 120
    · have y1 : (i : Int) < mc := by omega
      have y2 : (i : Int) < 120 := by omega
      obtain ⟨⟨cb, co, rfl, d1, d2, d3, d4⟩, _, _, _⟩ := CC.out i hlt.1
      have KC : Aside (∀ w' : World, Kp w w' → w'.cell? ⟨cb, co + i * 3 + 1, none⟩ = some (.int .i64 (V i).2.1)) := fun w' k => (k.cell (p := ⟨cb, co + i * 3 + 1, none⟩) d1).trans d3
      have c0 := (HI.out.1.k.cell (p := ⟨cb, co + i * 3, none⟩) d1).trans d2
      have c2 := (HI.out.1.k.cell (p := ⟨cb, co + i * 3 + 2, none⟩) d1).trans d4
      generalize (V i).1 = vf at *
      generalize (V i).2.1 = va at *
      generalize (V i).2.2 = vp at *
      clear d1 d2 d3 d4 hlt
      obtain ⟨t, k, g1, g2, g3, g4, g5⟩ := place_of vf n H1.out
      obtain ⟨u, u1, u2⟩ := and_lim vp 3 (by omega)
      have u1' : bits .and .i64 vp 3 = (u : Int) := u1
      obtain ⟨k2, hk2, hk3⟩ : ∃ k2 : Nat, ((k : Int) + 1).tmod (n : Int) = (k2 : Int) ∧ k2 < n ∧ (1 < n → k2 ≠ k) := ⟨(k + 1) % n, by
        rw [show ((k : Int) + 1) = ((k + 1 : Nat) : Int) by omega, Int.tmod_eq_emod_of_nonneg (by omega), Int.natCast_emod], Nat.mod_lt _ H1.out, fun h => by
        by_cases e : k + 1 = n
        · rw [e, Nat.mod_self]; omega
        · rw [Nat.mod_eq_of_lt (by omega)]; omega⟩
      have wk : Hid ((Lit.int .i64 (k : Int)).wf = true) := wf_small (by omega) (by omega)
      have wk2 : Hid ((Lit.int .i64 (k2 : Int)).wf = true) := wf_small (by omega) (by omega)
      obtain ⟨s, q, he⟩ : ∃ s q, E (k : Int) = (s, q) := ⟨_, _, rfl⟩
      obtain ⟨s3, q3, he3⟩ : ∃ s q, E (k2 : Int) = (s, q) := ⟨_, _, rfl⟩
      obtain ⟨R, hR⟩ : ∃ R, mayN n (E (k : Int)) (k : Int) va (u : Int) = R := ⟨_, rfl⟩
      obtain ⟨s2, q2, he2⟩ : ∃ s2 q2, doE n E (k : Int) va (u : Int) (k : Int) = (s2, q2) := ⟨_, _, rfl⟩
      have HE : Hid (E (k : Int) = (s, q) ∧ mayN n (E (k : Int)) (k : Int) va (u : Int) = R ∧ doE n E (k : Int) va (u : Int) (k : Int) = (s2, q2) ∧ E (k2 : Int) = (s3, q3)) := ⟨he, hR, he2, he3⟩
      have HO : Hid (1 < n → doE n E (k : Int) va (u : Int) (k2 : Int) = (s3, q3)) := (show 1 < n → doE n E (k : Int) va (u : Int) (k2 : Int) = (s3, q3) from fun h => by rw [doE_other _ _ _ _ (by have := hk3.2 h; omega)]; exact he3)
      have ve := HI.out.2 (k : Int)
      rw [he] at ve
      have CS : Hid ((R ≠ 0 ∧ s2 = s ∧ q2 = q) ∨ (R = 0 ∧ samN s2 q2 s q = false)) := by
        rw [doE_at] at he2
        by_cases e : R = 0
        · rw [hR, if_pos e] at he2
          rw [he] at hR
          have := oc_of ve (hR.trans e)
          rw [he2] at this
          exact .inr ⟨e, samN_not (fun h => oc_ne this (congrArg Prod.fst h))⟩
        · rw [hR, if_neg e, he] at he2
          cases he2
          exact .inl ⟨e, rfl, rfl⟩
      have zk2 : (k2 : Int) < n := by omega
      have zk : (k : Int) < n := by omega
      clear u1 he hR he2 he3 ve g5 hk3
      go_wp2_with fail
      with_reducible refine (HI.out.1.get (k : Int) s q wk.out HE.out.1).mono ?_
      rintro e w2 ⟨rfl, L2, _⟩
      have X2 : Hid (LX w (w2.alloc (.cells #[.int .i64 s, .int .i64 q] 36)) p bm n E w2.heap.size s q) := ⟨L2.kp ((Kp.refl w2).alloc _), NX.made w2 s q, fun e => by have := L2.lg.me.lt; omega⟩
      have c1 := KC.out _ X2.out.lk.k
      clear L2 c0 c2
      go_wp2_with fail
      with_reducible refine (X2.out.may (k : Int) va (u : Int) R wk.out HE.out.2.1).mono ?_
      rintro e w3 ⟨rfl, X3⟩
      clear X2 c1
      generalize w2.heap.size = b1 at *
      go_wp2_with fail
      with_reducible refine (X3.get (k2 : Int) s3 q3 wk2.out HE.out.2.2.2).mono ?_
      rintro e w4 ⟨rfl, X4⟩
      clear X3
      have Y4 : Hid (LY w (w4.alloc (.cells #[.int .i64 s3, .int .i64 q3] 36)) p bm n E b1 s q w4.heap.size s3 q3) := ⟨X4.lk.kp ((Kp.refl w4).alloc _), X4.b.kp ((Kp.refl w4).alloc _), NX.made w4 s3 q3, X4.ne, fun e => by have := X4.lk.lg.me.lt; omega⟩
      have c1 := KC.out _ Y4.out.lk.k
      have cD := Y4.out.do (k : Int) va (u : Int) wk.out
      rw [HE.out.2.1] at cD
      clear X4
      go_wp2_with fail
      with_reducible refine cD.mono ?_
      rintro e w5 ⟨rfl, Y5⟩
      clear cD Y4 c1
      generalize w4.heap.size = b2 at *
      go_wp2_with fail
      with_reducible refine (Y5.get (k : Int) s2 q2 wk.out HE.out.2.2.1).mono ?_
      rintro e w6 ⟨rfl, Y6, _⟩
      clear Y5
      have Y7 := Y6.kp ((Kp.refl w6).alloc (.cells #[.int .i64 s2, .int .i64 q2] 36))
      have N7 := NX.made w6 s2 q2
      have va2 : VA (doE n E (k : Int) va (u : Int)) := doE_va HI.out.2 _ _ _
      clear HE Y6 HI
      go_upto_region 15 with fail
      generalize doE n E (k : Int) va (u : Int) = E2 at *
      generalize w6.alloc (.cells #[.int .i64 s2, .int .i64 q2] 36) = W7 at *
      generalize w6.heap.size = b3 at *
      go_cut [123] (fun v wx => v = .bool false ∧ Hid (Kp W7 wx))
      case first =>
        have qe1 := eq_ent s2 q2 s q
        have qe2 := eq_ent s3 q3 s3 q3
        rw [samN_eq.2 rfl] at qe2
        have x0 : ∀ p : KeptBy W7, p.v.cell? ⟨b1, 0, none⟩ = some (.int .i64 s) := fun p => (Y7.x.kp p.k).c0
        have x1 : ∀ p : KeptBy W7, p.v.cell? ⟨b1, 1, none⟩ = some (.int .i64 q) := fun p => (Y7.x.kp p.k).c1
        have yy0 : ∀ p : KeptBy W7, p.v.cell? ⟨b2, 0, none⟩ = some (.int .i64 s3) := fun p => (Y7.y.kp p.k).c0
        have yy1 : ∀ p : KeptBy W7, p.v.cell? ⟨b2, 1, none⟩ = some (.int .i64 q3) := fun p => (Y7.y.kp p.k).c1
        have n0 : ∀ p : KeptBy W7, p.v.cell? ⟨b3, 0, none⟩ = some (.int .i64 s2) := fun p => (N7.kp p.k).c0
        have n1 : ∀ p : KeptBy W7, p.v.cell? ⟨b3, 1, none⟩ = some (.int .i64 q2) := fun p => (N7.kp p.k).c1
        have cG : Aside (1 < n → ∀ p' : KeptBy W7, Calls Try.prog 14 #[.pointer (some ⟨p, 0, none⟩), .int .i64 (k2 : Int)] p'.v fun e w' => e = .returned (.agg #[.int .i64 s3, .int .i64 q3]) ∧ Kp p'.v w') := fun h p' => ((Y7.lk.kp p'.k).get (k2 : Int) s3 q3 wk2.out (HO.out h)).mono (fun _ _ ⟨h1, _, h3⟩ => ⟨h1, h3⟩)
        clear Y7 N7 HO
        have cs := CS.out
        clear CS
        rcases cs with ⟨r0, rfl, rfl⟩ | ⟨rfl, hs⟩
        · have r1 : (R == 0) = false := by simpa using r0
          have r2 : (R != 0) = true := by simpa using r0
          have r3 : decide (R = 0) = false := decide_eq_false r0
          rw [samN_eq.2 rfl] at qe1
          by_cases hn : 1 < n
          · have cG2 := cG.out hn
            have zn : (1 : Int) < n := by omega
            refine wp_region_kept mixed (by kernel_rfl) ?_
            repeat (go_big_quiet_step (first | exact rfl | (go_at_call 14; with_reducible refine Calls.kept_of (cG2 _))))
            refine wpQuiet_nil ?_
            intro w8 hw'
            have kq : Kp W7 w8 := by obtain ⟨p, rfl⟩ := hw'; exact p.k
            go_wp2_with fail
            go_meet
            case rel => exact ⟨rfl, kq⟩
          · have zn : ¬ (1 : Int) < n := by omega
            refine wp_region_kept mixed (by kernel_rfl) ?_
            repeat (go_big_quiet_step (first | exact rfl | fail))
            refine wpQuiet_nil ?_
            intro w8 hw'
            have kq : Kp W7 w8 := by obtain ⟨p, rfl⟩ := hw'; exact p.k
            go_wp2_with fail
            go_meet
            case rel => exact ⟨rfl, kq⟩
        · rw [hs] at qe1
          by_cases hn : 1 < n
          · have cG2 := cG.out hn
            have zn : (1 : Int) < n := by omega
            refine wp_region_kept mixed (by kernel_rfl) ?_
            repeat (go_big_quiet_step (first | exact rfl | (go_at_call 14; with_reducible refine Calls.kept_of (cG2 _))))
            refine wpQuiet_nil ?_
            intro w8 hw'
            have kq : Kp W7 w8 := by obtain ⟨p, rfl⟩ := hw'; exact p.k
            go_wp2_with fail
            go_meet
            case rel => exact ⟨rfl, kq⟩
          · have zn : ¬ (1 : Int) < n := by omega
            refine wp_region_kept mixed (by kernel_rfl) ?_
            repeat (go_big_quiet_step (first | exact rfl | fail))
            refine wpQuiet_nil ?_
            intro w8 hw'
            have kq : Kp W7 w8 := by obtain ⟨p, rfl⟩ := hw'; exact p.k
            go_wp2_with fail
            go_meet
            case rel => exact ⟨rfl, kq⟩
      case rest =>
        obtain ⟨rfl, HC⟩ := hcut
        have HN : Hid (LK w wc p bm n E2 ∧ VA E2) := ⟨Y7.lk.kp HC.out, va2⟩
        have HT : Hid (tot E2 n 7 = n) := tot_all va2
        have HTL : Aside (∀ j, tot E2 n j ≤ n) := tot_le E2 n
        clear Y7 N7 HO CS HC va2
        go_wp2_with fail
        go_loopg [15, 16] 8 (fun g v15 v16 wr => ∃ (j : Nat), v16 = .int .i64 (j : Int) ∧ j ≤ 7 ∧ 8 - j ≤ g ∧ v15 = .int .i64 ((tot E2 n j : Nat) : Int) ∧ Hid (LK w wr p bm n E2 ∧ VA E2))
        case atStart => exact ⟨0, rfl, by omega, by omega, rfl, HN⟩
        case round =>
          clear HN
          obtain ⟨j, rfl, hj, hjg, rfl, HL⟩ := hrel
          have yj : (j : Int) ≤ 7 := by omega
          by_cases ej : j < 7
          · have zj : (j : Int) < 7 := by omega
            have l1 := HTL.out (j + 1)
            obtain ⟨c, hc⟩ : ∃ c, (lsE E2 n (j : Int) (-1)).length = c := ⟨_, rfl⟩
            have hs : tot E2 n (j + 1) = tot E2 n j + c := by rw [← hc]; rfl
            obtain ⟨T, hT⟩ : ∃ T, tot E2 n j = T := ⟨_, rfl⟩
            have HS : Hid (tot E2 n (j + 1) = T + c) := by show tot E2 n (j + 1) = T + c; rw [hs, hT]
            rw [hT]
            have zt : (T : Int) + c ≤ 60 := by omega
            have cC := HL.out.1.count (j : Int) (-1) c hc
            clear hs hT l1 hc
            go_wp2_with fail
            with_reducible refine cC.mono ?_
            rintro e w9 ⟨rfl, L9, _⟩
            have HL2 : Hid (LK w w9 p bm n E2 ∧ VA E2) := ⟨L9, HL.out.2⟩
            clear L9 HL cC
            go_wp2_with fail
            go_roundg (8 - (j + 1))
            case measure => omega
            case rel => exact ⟨j + 1, by go_num, by omega, by omega, by rw [HS.out]; go_num, HL2⟩
          · have e7 : j = 7 := by omega
            subst e7
            rw [HT.out, show ((7 : Nat) : Int) = 7 from rfl]
            go_wp2_with fail
            go_roundg (121 - (i + 1))
            case measure => omega
            case rel => exact ⟨i + 1, E2, by go_num, by omega, by omega, HL⟩
    · have HK : Hid (Kp w wr) := HI.out.1.k
      clear HI
      by_cases hm : i < mc
      · have ei : i = 120 := by omega
        subst ei
        have y1 : (120 : Int) < mc := by omega
        rw [show ((120 : Nat) : Int) = 120 from rfl]
        go_wp2_with (first | (go_at_call 7; with_reducible refine (cT _).mono ?_; rintro e w2 ⟨rfl, K2⟩))
        go_ret
        exact ⟨rfl, HK.out.trans K2⟩
      · have y1 : ¬ (i : Int) < mc := by omega
        go_wp2_with (first | (go_at_call 7; with_reducible refine (cT _).mono ?_; rintro e w2 ⟨rfl, K2⟩))
        go_ret
        exact ⟨rfl, HK.out.trans K2⟩

theorem one_any (a0 : Int) (nc : Option Addr) (mc capc : Nat) (V : Nat → Int × Int × Int) (w : World) (C : Steps w nc mc V) :
    Calls Try.prog 4 #[.int .i64 a0, .slice nc mc capc] w fun e w' => e = .returned (.bool true) ∧ Kp w w' := by
  obtain ⟨m, m1, m2⟩ := and_lim a0 63 (by omega)
  refine one_walk a0 m (m % 60) (1 + m % 60) nc mc capc V w C m1 (by rw [Int.tmod_eq_emod_of_nonneg (by omega)]; omega) (by omega) (by omega) (by omega)

end Go.Proofs.Ytjeahpekcbogeaa
