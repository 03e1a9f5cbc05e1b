/- LedgerOwners. -/
import Derived.Test.YtjeahpekcbogeaaGB
import Derived.Test.YtjeahpekcbogeaaS3
import Derived.Deep.DeepCutAuto
import Derived.Deep.CutBlock
namespace Go.Proofs.Ytjeahpekcbogeaa
open Go.RowKit Go.Maps

theorem LX.do {W w : World} {p bm N bo : Nat} {E : Int → Int × Int} {s q : Int} (h : LX W w p bm N E bo s q) (x a u : Int) (hx : (Lit.int .i64 x).wf = true) :
    Calls Try.prog 12 #[.pointer (some ⟨p, 0, none⟩), .int .i64 x, .int .i64 a, .int .i64 u] w fun e w' => e = .returned (.int .i64 (mayN N (E x) x a u)) ∧ LX W w' p bm N (doE N E x a u) bo s q :=
  (h.lk.do x a u hx).mono (fun _ _ ⟨h1, h2, h3⟩ => ⟨h1, h2, h.b.fr h3 h.ne, h.ne⟩)

set_option maxHeartbeats 16000000 in
set_option maxRecDepth 100000 in
theorem own_walk (a0 : Int) (m r n : Nat) (nc : Option Addr) (mc capc : Nat) (V : Nat → Int × Int × Int) (w : World) (C : Steps w nc mc V)
    (e1 : bits .and .i64 a0 31 = (m : Int)) (e2 : (m : Int).tmod 20 = (r : Int)) (e3 : 1 + (r : Int) = (n : Int)) (h1 : 1 ≤ n) (h2 : n ≤ 20) :
    Calls Try.prog 5 #[.int .i64 a0, .slice nc mc capc] w fun e w' => e = .returned (.bool true) ∧ Kp w w' := by
  have cN := lk_new w n w (Kp.refl w) h1 (by omega)
  have cT := ltold_any
  have CC : Aside (Steps w nc mc V) := C
  have z1 : (n : Int) ≤ 20 := by omega
  have z2 : (1 : Int) ≤ n := by omega
  have z4 : ¬ (n : Int) = 0 := by omega
  have H1 : Hid (1 ≤ n) := h1
  clear C h1 h2
  go_enter Try.func5, Try.ntmps5
  go_wp2_with fail
  with_reducible refine cN.mono ?_
  rintro e w1 ⟨p, bm, rfl, L1, _⟩
  have I0 : Hid (LK w w1 p bm n noE ∧ VA noE) := ⟨L1, va_no⟩
  clear cN L1 e1 e2 e3
  go_wp2_with fail
  go_loopg [7] 121 (fun g v7 wr => ∃ (i : Nat) (E : Int → Int × Int), v7 = .int .i64 (i : Int) ∧ i ≤ 120 ∧ 121 - i ≤ g ∧ Hid (LK w wr p bm n E ∧ VA E))
  case atStart => exact ⟨0, noE, rfl, by omega, by omega, I0⟩
  case round =>
    clear I0
    obtain ⟨i, E, rfl, hi, hg, HI⟩ := hrel
    by_cases hlt : i < mc ∧ i < 120
    · have y1 : (i : Int) < mc := by omega
      have y2 : (i : Int) < 120 := by omega
      obtain ⟨⟨cb, co, rfl, d1, d2, d3, d4⟩, _, _, _⟩ := CC.out i hlt.1
      have KC : Aside (∀ w' : World, Kp w w' → w'.cell? ⟨cb, co + i * 3 + 1, none⟩ = some (.int .i64 (V i).2.1)) := fun w' k => (k.cell (p := ⟨cb, co + i * 3 + 1, none⟩) d1).trans d3
      have c0 := (HI.out.1.k.cell (p := ⟨cb, co + i * 3, none⟩) d1).trans d2
      have c2 := (HI.out.1.k.cell (p := ⟨cb, co + i * 3 + 2, none⟩) d1).trans d4
      generalize (V i).1 = vf at *
      generalize (V i).2.1 = va at *
      generalize (V i).2.2 = vp at *
      clear d1 d2 d3 d4 hlt
      obtain ⟨t, k, g1, g2, g3, g4, g5⟩ := place_of vf n H1.out
      obtain ⟨un, u1, u2⟩ := and_lim vp 3 (by omega)
      obtain ⟨u, hu⟩ : ∃ u : Int, (un : Int) = u := ⟨_, rfl⟩
      have u1' : bits .and .i64 vp 3 = u := u1.trans hu
      have wk : Hid ((Lit.int .i64 (k : Int)).wf = true) := wf_small (by omega) (by omega)
      obtain ⟨s, q, he⟩ : ∃ s q, E (k : Int) = (s, q) := ⟨_, _, rfl⟩
      obtain ⟨R, hR⟩ : ∃ R, mayN n (E (k : Int)) (k : Int) va u = R := ⟨_, rfl⟩
      obtain ⟨s2, q2, he2⟩ : ∃ s2 q2, doE n E (k : Int) va u (k : Int) = (s2, q2) := ⟨_, _, rfl⟩
      have HE : Hid (E (k : Int) = (s, q) ∧ mayN n (E (k : Int)) (k : Int) va u = R ∧ doE n E (k : Int) va u (k : Int) = (s2, q2)) := ⟨he, hR, he2⟩
      have ve := HI.out.2 (k : Int)
      rw [he] at ve
      have CS : Hid ((R ≠ 0 ∧ s2 = s ∧ q2 = q ∧ VE (s, q)) ∨ (R = 0 ∧ OC s q s2 q2 u)) := by
        rw [doE_at] at he2
        by_cases e : R = 0
        · rw [hR, if_pos e] at he2
          rw [he] at hR
          have := oc_of ve (hR.trans e)
          rw [he2] at this
          exact .inr ⟨e, this⟩
        · rw [hR, if_neg e, he] at he2
          cases he2
          exact .inl ⟨e, rfl, rfl, ve⟩
      clear u1 u2 hu he hR he2 ve g5
      go_wp2_with fail
      with_reducible refine (HI.out.1.get (k : Int) s q wk.out HE.out.1).mono ?_
      rintro e w2 ⟨rfl, L2, _⟩
      have X2 : Hid (LX w (w2.alloc (.cells #[.int .i64 s, .int .i64 q] 36)) p bm n E w2.heap.size s q) := ⟨L2.kp ((Kp.refl w2).alloc _), NX.made w2 s q, fun e => by have := L2.lg.me.lt; omega⟩
      have c1 := KC.out _ X2.out.lk.k
      clear L2 c0 c2
      have cD := X2.out.do (k : Int) va u wk.out
      rw [HE.out.2.1] at cD
      go_wp2_with fail
      with_reducible refine cD.mono ?_
      rintro e w3 ⟨rfl, X3⟩
      clear cD X2 c1
      generalize w2.heap.size = bo at *
      go_wp2_with fail
      with_reducible refine (X3.get (k : Int) s2 q2 wk.out HE.out.2.2).mono ?_
      rintro e w4 ⟨rfl, X4⟩
      clear X3
      have X5 := X4.kp ((Kp.refl w4).alloc (.cells #[.int .i64 s2, .int .i64 q2] 36))
      have c0 := X5.b.c0
      have c1 := X5.b.c1
      have HN : Hid (LK w (w4.alloc (.cells #[.int .i64 s2, .int .i64 q2] 36)) p bm n (doE n E (k : Int) va u) ∧ VA (doE n E (k : Int) va u)) := ⟨X5.lk, doE_va HI.out.2 _ _ _⟩
      have d0 := (NX.made w4 s2 q2).c0
      have d1 := (NX.made w4 s2 q2).c1
      clear HE X4 X5 HI
      go_upto_region 13 with fail
      generalize doE n E (k : Int) va u = E2 at *
      generalize w4.alloc (.cells #[.int .i64 s2, .int .i64 q2] 36) = W4 at *
      generalize w4.heap.size = b2 at *
      have cs := CS.out
      clear CS
      rcases cs with ⟨r0, rfl, rfl, ve⟩ | ⟨rfl, oc⟩
      · have r1 : (R == 0) = false := by simpa using r0
        unfold VE at ve
        simp only at ve
        rcases ve with ⟨e | e | e | e, e'⟩ | ⟨e | e | e, e'⟩
        all_goals
          as_aux_lemma =>
            subst e
            first | subst e' | (have y0 : (q2 == 0) = false := beq_eq_false_iff_ne.2 e'; have y01 : (q2 != 0) = true := (by simpa using e'); have y02 : decide (q2 = 0) = false := decide_eq_false e')
            go_wp2_with fail
            go_roundg (121 - (i + 1))
            case measure => omega
            case rel => exact ⟨i + 1, E2, by go_num, by omega, by omega, HN⟩
      · unfold OC at oc
        rcases oc with ⟨rfl, rfl, rfl, rfl⟩ | ⟨rfl, rfl, rfl, rfl⟩ | ⟨rfl, rfl, rfl, rfl, up⟩ | ⟨rfl, rfl, rfl, rfl, up⟩ | ⟨rfl, rfl, rfl, rfl, up⟩ | ⟨rfl, rfl, rfl, rfl, up⟩ | ⟨rfl, rfl, rfl, rfl, up⟩ | ⟨rfl, rfl, rfl, rfl, up⟩ | ⟨rfl, rfl, rfl, rfl, up⟩ | ⟨rfl, rfl, rfl, rfl⟩ | ⟨rfl, rfl, rfl, rfl⟩ | ⟨rfl, rfl, rfl, rfl⟩ | ⟨rfl, rfl, rfl, rfl, up⟩ | ⟨rfl, rfl, rfl, rfl, up⟩
        all_goals
          as_aux_lemma =>
            first | (have y0 : (u == 0) = false := beq_eq_false_iff_ne.2 up; have y01 : (u != 0) = true := (by simpa using up); have y02 : decide (u = 0) = false := decide_eq_false up) | (have y0 : (q2 == 0) = false := beq_eq_false_iff_ne.2 up; have y01 : (q2 != 0) = true := (by simpa using up); have y02 : decide (q2 = 0) = false := decide_eq_false up) | (have y0 : (q == 0) = false := beq_eq_false_iff_ne.2 up; have y01 : (q != 0) = true := (by simpa using up); have y02 : decide (q = 0) = false := decide_eq_false up) | skip
            go_wp2_with fail
            go_roundg (121 - (i + 1))
            case measure => omega
            case rel => exact ⟨i + 1, E2, by go_num, by omega, by omega, HN⟩
    · have HK : Hid (Kp w wr) := HI.out.1.k
      clear HI
      by_cases hm : i < mc
      · have ei : i = 120 := by omega
        subst ei
        have y1 : (120 : Int) < mc := by omega
        rw [show ((120 : Nat) : Int) = 120 from rfl]
        go_wp2_with (first | (go_at_call 7; with_reducible refine (cT _).mono ?_; rintro e w2 ⟨rfl, K2⟩))
        go_ret
        exact ⟨rfl, HK.out.trans K2⟩
      · have y1 : ¬ (i : Int) < mc := by omega
        go_wp2_with (first | (go_at_call 7; with_reducible refine (cT _).mono ?_; rintro e w2 ⟨rfl, K2⟩))
        go_ret
        exact ⟨rfl, HK.out.trans K2⟩

theorem own_any (a0 : Int) (nc : Option Addr) (mc capc : Nat) (V : Nat → Int × Int × Int) (w : World) (C : Steps w nc mc V) :
    Calls Try.prog 5 #[.int .i64 a0, .slice nc mc capc] w fun e w' => e = .returned (.bool true) ∧ Kp w w' := by
  obtain ⟨m, m1, m2⟩ := and_lim a0 31 (by omega)
  refine own_walk a0 m (m % 20) (1 + m % 20) nc mc capc V w C m1 (by rw [Int.tmod_eq_emod_of_nonneg (by omega)]; omega) (by omega) (by omega) (by omega)

end Go.Proofs.Ytjeahpekcbogeaa
