/- LedgerPlays. -/
import Derived.Test.YtjeahpekcbogeaaGI
import Derived.Test.YtjeahpekcbogeaaS3
import Derived.Test.YtjeahpekcbogeaaKB
import Derived.Deep.RegionHeld3
import Derived.Deep.DeepCutAuto
import Derived.Deep.CutBlock
namespace Go.Proofs.Ytjeahpekcbogeaa
open Go.RowKit Go.Maps

set_option maxHeartbeats 16000000 in
set_option maxRecDepth 100000 in
theorem plays_walk (n : Nat) (st pt : Int) (nc : Option Addr) (mc capc : Nat) (V : Nat → Int × Int × Int) (w : World) (C : Steps w nc mc V) (h1 : 1 ≤ n) (h2 : n ≤ 300) :
    Calls Try.prog 3 #[.int .i64 (n : Int), .slice nc mc capc, .int .i64 st, .int .i64 pt] w fun e w' => e = .returned (.bool true) ∧ Kp w w' := by
  have cN := lk_new w n w (Kp.refl w) h1 (by omega)
  have cT := ltold_any
  have CC : Aside (Steps w nc mc V) := C
  have z1 : (n : Int) ≤ 300 := by omega
  have z2 : (1 : Int) ≤ n := by omega
  have z3 : ¬ 300 < n := by omega
  have cM : Aside (∀ w, Calls Try.prog 9 #[.int .i64 (n : Int)] w fun e w' => ∃ qd b, e = .returned (.tuple #[.pointer (some ⟨qd, 0, none⟩), .int .i64 0]) ∧ DL w' qd b n noE ∧ Kp w w' ∧ w.heap.size ≤ qd ∧ w.heap.size ≤ b) := fun w => ldnew_ok n w h1 (by omega)
  clear C h1 h2
  go_enter Try.func3, Try.ntmps3
  go_wp2_with fail
  with_reducible refine cN.mono ?_
  rintro e w1 ⟨p, bm, rfl, L1, _⟩
  clear cN
  go_wp2_with fail
  with_reducible refine (cM.out _).mono ?_
  rintro e w2 ⟨qd, b, rfl, D2, K2, q1, q2⟩
  have I0 : Hid (PD w w2 p bm qd b n noE noE) := ⟨L1.kp K2, D2, Nat.le_trans L1.k.size q1, Nat.le_trans L1.k.size q2, by have := L1.lg.me.lt; omega, by have := L1.lg.me.lt; omega, by have := L1.lg.lt; omega⟩
  clear cM L1 D2 K2 q1 q2
  go_upto_block 0 with fail
  go_cut [] (fun wx => ∃ E : Int → Int × Int, Hid (PD w wx p bm qd b n E E))
  case first =>
    go_wp2_with fail
    go_loopg [13] 101 (fun g v13 wr => ∃ (i : Nat) (E : Int → Int × Int), v13 = .int .i64 (i : Int) ∧ i ≤ 100 ∧ 101 - i ≤ g ∧ Hid (PD w wr p bm qd b n E E))
    case atStart => exact ⟨0, noE, rfl, by omega, by omega, I0⟩
    case round =>
      clear I0
      obtain ⟨i, E, rfl, hi, hg, HI⟩ := hrel
      by_cases hlt : i < mc ∧ i < 100
      · have y1 : (i : Int) < mc := by omega
        have y2 : (i : Int) < 100 := by omega
        obtain ⟨⟨cb, co, rfl, d1, d2, d3, d4⟩, wf, _, _⟩ := CC.out i hlt.1
        have c0 := (HI.out.lk.k.cell (p := ⟨cb, co + i * 3, none⟩) d1).trans d2
        have c1 := (HI.out.lk.k.cell (p := ⟨cb, co + i * 3 + 1, none⟩) d1).trans d3
        have c2 := (HI.out.lk.k.cell (p := ⟨cb, co + i * 3 + 2, none⟩) d1).trans d4
        have WF : Hid ((Lit.int .i64 (V i).1).wf = true) := wf
        generalize (V i).1 = vf at *
        generalize (V i).2.1 = va at *
        generalize (V i).2.2 = vp at *
        clear d1 d2 d3 d4 hlt wf
        have X2 := PDX.mk (HI.out.kp ((Kp.refl wr).alloc (.cells #[.int .i64 vf, .int .i64 va, .int .i64 vp] 32))) (OX.made wr vf va vp) (fun e => by have := HI.out.lk.lg.me.lt; omega) (fun e => by have := HI.out.dl.lt; omega)
        clear HI
        go_upto_region 11 with fail
        clear c0 c1 c2
        generalize wr.alloc (.cells #[.int .i64 vf, .int .i64 va, .int .i64 vp] 32) = W2 at *
        generalize wr.heap.size = Bo at *
        obtain ⟨R, hR⟩ : ∃ R, mayN n (E vf) vf va vp = R := ⟨_, rfl⟩
        obtain ⟨s, q, he⟩ : ∃ s q, doE n E vf va vp vf = (s, q) := ⟨_, _, rfl⟩
        have HE : Hid (mayN n (E vf) vf va vp = R ∧ doE n E vf va vp vf = (s, q)) := ⟨hR, he⟩
        clear hR he
        have o0 : ∀ p : KeptBy W2, p.v.cell? ⟨Bo, 0, none⟩ = some (.int .i64 vf) := fun p => (X2.o.kp p.k).c0
        have o1 : ∀ p : KeptBy W2, p.v.cell? ⟨Bo, 1, none⟩ = some (.int .i64 va) := fun p => (X2.o.kp p.k).c1
        have o2 : ∀ p : KeptBy W2, p.v.cell? ⟨Bo, 2, none⟩ = some (.int .i64 vp) := fun p => (X2.o.kp p.k).c2
        have cA : Aside (∀ p' : KeptBy W2, Calls Try.prog 10 #[.pointer (some ⟨p, 0, none⟩), .int .i64 vf, .int .i64 va, .int .i64 vp] p'.v fun e w' => e = .returned (.int .i64 R) ∧ Kp p'.v w') := fun p' => ((X2.pd.lk.kp p'.k).may vf va vp R WF.out HE.out.1).mono (fun _ _ ⟨h1, _, h3⟩ => ⟨h1, h3⟩)
        have cB : Aside (∀ p' : KeptBy W2, Calls Try.prog 11 #[.pointer (some ⟨qd, 0, none⟩), .int .i64 vf, .int .i64 va, .int .i64 vp] p'.v fun e w' => e = .returned (.int .i64 R) ∧ Kp p'.v w') := fun p' => by
          have := dmay_any (X2.pd.dl.kp p'.k) vf va vp
          rw [HE.out.1] at this
          exact this
        refine wp_region_kept mixed (by kernel_rfl) ?_
        repeat (go_big_quiet_step (first | exact rfl | (go_at_call 10; with_reducible refine Calls.kept_of (cA.out _)) | (go_at_call 11; with_reducible refine Calls.kept_of (cB.out _))))
        refine wpQuiet_nil ?_
        intro w3 hw'
        have kq : Kp W2 w3 := by obtain ⟨p, rfl⟩ := hw'; exact p.k
        have X4 := X2.kp kq.drew
        have X3 := X2.kp kq
        have e0 := X3.o.c0
        have e1 := X3.o.c1
        have e2 := X3.o.c2
        clear o0 o1 o2 cA cB hw' X2 X3 kq
        have qe := eq_ent s q s q
        rw [samN_eq.2 rfl] at qe
        have cP := X4.pdo vf va vp WF.out
        rw [HE.out.1] at cP
        have cQ : Aside (∀ w5, PDX w w5 p bm qd b n (doE n E vf va vp) E Bo vf va vp → Calls Try.prog 13 #[.pointer (some ⟨qd, 0, none⟩), .int .i64 vf, .int .i64 va, .int .i64 vp] w5 fun e w' => e = .returned (.int .i64 R) ∧ PDX w w' p bm qd b n (doE n E vf va vp) (doE n E vf va vp) Bo vf va vp) := fun w5 h => by
          have := h.ddo vf va vp
          rw [HE.out.1] at this
          exact this
        clear X4
        go_wp2_with fail
        go_region_held3 (fun w' => w'.cell? ⟨Bo, 0, none⟩ = some (.int .i64 vf) ∧ w'.cell? ⟨Bo, 1, none⟩ = some (.int .i64 va) ∧ w'.cell? ⟨Bo, 2, none⟩ = some (.int .i64 vp))
          (first | go_keep | exact ⟨X8.o.c0, X8.o.c1, X8.o.c2⟩ | exact ⟨X7.o.c0, X7.o.c1, X7.o.c2⟩ | exact ⟨X6.o.c0, X6.o.c1, X6.o.c2⟩ | exact ⟨X5.o.c0, X5.o.c1, X5.o.c2⟩)
          (first | (go_at_call 12; with_reducible refine cP.mono ?_; rintro e w5 ⟨rfl, X5⟩) | (go_at_call 13; with_reducible refine (cQ.out _ X5).mono ?_; rintro e w6 ⟨rfl, X6⟩) | (go_at_call 14; with_reducible refine (X6.pget vf s q WF.out HE.out.2).mono ?_; rintro e w7 ⟨rfl, X7⟩) | (go_at_call 15; with_reducible refine (X7.dget vf s q HE.out.2).mono ?_; rintro e w8 ⟨rfl, X8⟩))
        have HN : Hid (PD w w8 p bm qd b n (doE n E vf va vp) (doE n E vf va vp)) := X8.pd
        clear X5 X6 X7 X8 cP cQ e0 e1 e2 HE
        go_wp2_with fail
        go_roundg (101 - (i + 1))
        case measure => omega
        case rel => exact ⟨i + 1, _, by go_num, by omega, by omega, HN⟩
      · by_cases hm : i < mc
        · have ei : i = 100 := by omega
          subst ei
          have y1 : (100 : Int) < mc := by omega
          rw [show ((100 : Nat) : Int) = 100 from rfl]
          go_wp2_with fail
          go_meet
          case rel => exact ⟨E, HI⟩
        · have y1 : ¬ (i : Int) < mc := by omega
          go_wp2_with fail
          go_meet
          case rel => exact ⟨E, HI⟩
  case rest =>
    obtain ⟨E, HI⟩ := hcut
    clear I0 CC
    go_wp2_with fail
    go_loopg [17] 11 (fun g v17 wr => ∃ (s : Int), v17 = .int .i64 s ∧ -1 ≤ s ∧ s ≤ 8 ∧ (9 - s).toNat ≤ g ∧ Hid (PD w wr p bm qd b n E E))
    case atStart => exact ⟨-1, rfl, by omega, by omega, by decide, HI⟩
    case round =>
      clear HI
      obtain ⟨s, rfl, s1, s2, hg, HI⟩ := hrel
      by_cases hs : s < 8
      · obtain ⟨L, hL⟩ : ∃ L, lsE E n s pt = L := ⟨_, rfl⟩
        obtain ⟨c, hc⟩ : ∃ c, L.length = c := ⟨_, rfl⟩
        have hle : c ≤ n := by rw [← hc, ← hL]; exact lsE_le _ _ _ _
        have HL : Hid (lsE E n s pt = L ∧ L.length = c ∧ L.length ≤ 2000000) := ⟨hL, hc, by omega⟩
        have yc : (c : Int) ≤ 300 := by omega
        clear hL hc hle
        go_wp2_with fail
        with_reducible refine (HI.out.dlist s pt L HL.out.1).mono ?_
        rintro e w3 ⟨⟨v, rfl, I3⟩, P3, _⟩
        obtain ⟨na, cap, rfl, _⟩ := id I3
        rw [HL.out.2.1] at I3 ⊢
        clear HI
        go_wp2_with fail
        with_reducible refine (P3.pcount s pt c (by rw [HL.out.1]; exact HL.out.2.1)).mono ?_
        rintro e w4 ⟨rfl, P4, K4⟩
        have I4 := I3.kp K4
        clear P3 I3 K4
        go_wp2_with fail
        with_reducible refine (P4.plist s pt L HL.out.1).mono ?_
        rintro e w5 ⟨⟨v2, rfl, I5⟩, P5, K5⟩
        have cI := ints_any I5 (I4.kp K5) HL.out.2.2
        rw [decide_eq_true rfl] at cI
        clear P4 I4 K5
        go_wp2_with fail
        with_reducible refine cI.mono ?_
        rintro e w6 ⟨rfl, K6⟩
        have HN : Hid (PD w w6 p bm qd b n E E) := P5.kp K6
        clear P5 K6 cI I5
        go_wp2_with fail
        go_roundg ((9 - (s + 1)).toNat)
        case measure => omega
        case rel => exact ⟨s + 1, by go_num, by omega, by omega, by omega, HN⟩
      · have es : s = 8 := by omega
        subst es
        obtain ⟨L, hL⟩ : ∃ L, lsE E n st (-1) = L := ⟨_, rfl⟩
        obtain ⟨c, hc⟩ : ∃ c, L.length = c := ⟨_, rfl⟩
        have hle : c ≤ n := by rw [← hc, ← hL]; exact lsE_le _ _ _ _
        have HL : Hid (lsE E n st (-1) = L ∧ L.length = c ∧ L.length ≤ 2000000) := ⟨hL, hc, by omega⟩
        have yc : (c : Int) ≤ 300 := by omega
        clear hL hc hle
        go_wp2_with fail
        with_reducible refine (cT _).mono ?_
        rintro e w3 ⟨rfl, K3⟩
        have P3 := HI.out.kp K3
        clear HI K3
        go_wp2_with fail
        with_reducible refine (P3.plist st (-1) L HL.out.1).mono ?_
        rintro e w4 ⟨⟨v, rfl, I4⟩, P4, _⟩
        clear P3
        go_wp2_with fail
        with_reducible refine (P4.dlist st (-1) L HL.out.1).mono ?_
        rintro e w5 ⟨⟨v2, rfl, I5⟩, P5, K5⟩
        have cI := ints_any (I4.kp K5) I5 HL.out.2.2
        rw [decide_eq_true rfl] at cI
        clear P4 I4 K5 I5
        go_wp2_with fail
        with_reducible refine cI.mono ?_
        rintro e w6 ⟨rfl, K6⟩
        have P6 := P5.kp K6
        clear P5 K6 cI
        go_wp2_with fail
        with_reducible refine (P6.pcount st (-1) c (by rw [HL.out.1]; exact HL.out.2.1)).mono ?_
        rintro e w7 ⟨rfl, P7, _⟩
        clear P6
        go_wp2_with fail
        with_reducible refine (P7.dlist st (-1) L HL.out.1).mono ?_
        rintro e w8 ⟨⟨v3, rfl, I8⟩, P8, _⟩
        obtain ⟨na, cap, rfl, _⟩ := I8
        rw [HL.out.2.1]
        have HK : Hid (Kp w w8) := P8.lk.k
        clear P7 P8
        go_wp2_with fail
        go_ret
        exact ⟨rfl, HK.out⟩

end Go.Proofs.Ytjeahpekcbogeaa
