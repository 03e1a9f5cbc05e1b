/- BuddyRuns: the walk. -/
import Derived.Test.YtlclpnaaaiimaaaDoorUY
import Derived.Deep.DeepCutAuto
import Derived.Deep.CutBlock
namespace Go.Proofs.YtlclpnaaaiimaaaDoor
open Go.RowKit

theorem pow_facts (o f : Nat) (ho : o ≤ 9) (hf : f % 2 ^ o = 0) : ∃ s : Nat, s = 2 ^ o ∧ (2 : Int) ^ o = (s : Int) ∧ s ≤ 1000 ∧ 0 < s ∧ (f : Int).tmod (s : Int) = 0 := by
  obtain ⟨_, e6⟩ := pow_wrap (show o < 10 by omega)
  have hp := Nat.two_pow_pos o
  have es : (2 : Int) ^ o = ((2 ^ o : Nat) : Int) := by push_cast; rfl
  have hmd : (f : Int).tmod ((2 ^ o : Nat) : Int) = 0 := by
    rw [Int.tmod_eq_emod_of_nonneg (by omega), ← Int.natCast_emod, hf]; rfl
  exact ⟨2 ^ o, rfl, es, by omega, hp, hmd⟩
set_option maxHeartbeats 16000000 in
set_option maxRecDepth 1000000 in
theorem runs_walk (a0 a1 : Int) (lo m r n : Nat) (nc : Option Addr) (mc capc : Nat) (V : Nat → Int × Int × Int) (w : World) (C : Steps w nc mc V) (T : TAB w)
    (e1 : bits .and .i64 a0 4095 = (lo : Int)) (e2 : bits .and .i64 a1 2047 = (m : Int)) (e3 : (m : Int).tmod 1200 = (r : Int)) (e4 : 1 + (r : Int) = (n : Int)) (h1 : lo ≤ 4095) (h2 : 1 ≤ n) (h3 : n ≤ 1200) :
    Calls Tryd.prog 6 #[.int .i64 a0, .int .i64 a1, .slice nc mc capc] w fun e w' => e = .returned (.bool true) ∧ Kp w w' := by
  have k1 := new_ok lo n w T (by omega) (by omega)
  have CC : Aside (Steps w nc mc V) := C
  have HT : Hid (TAB w) := T
  have z1 : (n : Int) ≤ 1200 := by omega
  have z2 : (1 : Int) ≤ n := by omega
  have z3 : (lo : Int) ≤ 4095 := by omega
  have z4 : ¬ (n : Int) = 0 := by omega
  clear C T
  go_enter Tryd.func6, Tryd.ntmps6
  go_wp2_with fail
  with_reducible refine k1.mono ?_
  rintro e w1 ⟨⟨p, U, rfl, B1, N1⟩, K1⟩
  clear k1 e1 e2 e3 e4
  obtain ⟨B, hB⟩ : ∃ B, B = w1.heap.size := ⟨_, rfl⟩
  have I0 : Hid (BU w B U w1 p lo (lo + n) (ivl lo (lo + n))) := ⟨B1, K1, fun k hk => ⟨N1 k hk, by rw [hB]; exact B1.own k hk⟩, by rw [hB]; exact Nat.le_refl _⟩
  clear B1 N1 K1 hB
  go_upto_block 0 with fail
  go_cut [] (fun wx => ∃ F : Nat → Bool, Hid (BU w B U wx p lo (lo + n) F))
  case first =>
    go_wp2_with fail
    go_loopg [9] 61 (fun g v9 wr => ∃ (i : Nat) (F : Nat → Bool), v9 = .int .i64 (i : Int) ∧ i ≤ 60 ∧ 61 - i ≤ g ∧ Hid (BU w B U wr p lo (lo + n) F))
    case atStart => exact ⟨0, _, rfl, by omega, by omega, I0⟩
    case round =>
      clear I0
      obtain ⟨i, F, rfl, hi, hg, HI⟩ := hrel
      by_cases hlt : i < mc ∧ i < 60
      · have y1 : (i : Int) < mc := by omega
        have y2 : (i : Int) < 60 := by omega
        obtain ⟨⟨cb, co, rfl, d1, d2, d3, d4⟩, _, _, _⟩ := CC.out i hlt.1
        have c0 := (HI.out.kp.cell (p := ⟨cb, co + i * 3, none⟩) d1).trans d2
        have c1 := (HI.out.kp.cell (p := ⟨cb, co + i * 3 + 1, none⟩) d1).trans d3
        have c2 := (HI.out.kp.cell (p := ⟨cb, co + i * 3 + 2, none⟩) d1).trans d4
        generalize (V i).1 = vk at *
        generalize (V i).2.1 = vf at *
        generalize (V i).2.2 = vo at *
        clear d1 d2 d3 d4
        obtain ⟨kd, q1, q2⟩ := and_lim vk 1 (by omega)
        have q1' : bits .and .i64 vk 1 = (kd : Int) := q1
        clear q1
        by_cases hk0 : kd = 0
        · subst hk0
          obtain ⟨o, o1, o2⟩ := and_lim vo 7 (by omega)
          have o1' : bits .and .i64 vo 7 = (o : Int) := o1
          have k2 := take_some HI.out.bf o (by omega)
          clear o1
          go_wp2_with fail
          with_reducible refine k2.mono ?_
          rintro e w3 ⟨⟨a, b, rfl⟩, F', B3, F3⟩
          have HI2 : Hid (BU w B U w3 p lo (lo + n) F') := HI.out.next B3 F3
          clear B3 F3 k2 HI
          go_wp2
          go_roundg (61 - (i + 1))
          case measure => omega
          case rel => exact ⟨i + 1, F', by go_num, by omega, by omega, HI2⟩
        · have hk1 : kd = 1 := by omega
          subst hk1
          obtain ⟨o, o1, o2⟩ := and_lim vo 3 (by omega)
          have o1' : bits .and .i64 vo 3 = (o : Int) := o1
          obtain ⟨t, q, g1, g2, g3, g4, g5⟩ := place_of vf n h2
          obtain ⟨e5, e6⟩ := pow_wrap (show o < 10 by omega)
          have hp := Nat.two_pow_pos o
          generalize 2 ^ o = s at *
          have y3 : (q : Int) < n := by omega
          have y4 : (o : Int) ≤ 3 := by omega
          have y5 : (1 : Int) ≤ s := by omega
          obtain ⟨x, hx⟩ : ∃ x, bits .andNot .i64 ((lo : Int) + q) ((s : Int) - 1) = x := ⟨_, rfl⟩
          have k2 := give_any HI.out.bf x (o : Int)
          generalize gvR lo (lo + n) F x (o : Int) = rr at *
          generalize gvF lo (lo + n) F x (o : Int) = F' at *
          clear o1 hk0
          go_wp2_with fail
          with_reducible refine k2.mono ?_
          rintro e w3 ⟨rfl, B3, F3⟩
          have HI2 : Hid (BU w B U w3 p lo (lo + n) F') := HI.out.next B3 F3
          clear B3 F3 k2 HI
          go_wp2
          go_roundg (61 - (i + 1))
          case measure => omega
          case rel => exact ⟨i + 1, F', by go_num, by omega, by omega, HI2⟩
      · have NLT : Hid (¬ (i < mc ∧ i < 60)) := hlt
        clear hlt
        by_cases hlt : (i : Int) < mc
        · have y2 : ¬ (i : Int) < 60 := by have := NLT.out; omega
          go_wp2_with fail
          go_meet
          case rel => exact ⟨F, HI⟩
        · go_wp2_with fail
          go_meet
          case rel => exact ⟨F, HI⟩
  case rest =>
    obtain ⟨F, HI⟩ := hcut
    have k2 := runs_any HI.out.bf
    clear I0 CC
    go_wp2_with fail
    with_reducible refine k2.mono ?_
    rintro e w3 ⟨⟨v, rfl, R3⟩, K3⟩
    have I3 := HI.out.kps K3
    obtain ⟨L, hL⟩ : ∃ L, L = rl F (lo + n) lo := ⟨_, rfl⟩
    have hat : ∀ k f o, L[k]? = some (f, o) → o ≤ 9 ∧ f % 2 ^ o = 0 ∧ lo ≤ f ∧ f + 2 ^ o ≤ lo + n ∧ endR L k ≤ f ∧ (∀ j f', k = j + 1 → L[j]? = some (f', o) → o < 9 → f = f' + 2 ^ o → ¬ f' % (2 * 2 ^ o) = 0) := fun k f o hx => by rw [hL] at hx ⊢; exact I3.bf.at hx
    have hsum : sumK L L.length = cnt F (lo + n) := by rw [sumK_all, hL]; exact I3.bf.sum
    rw [← hL] at R3
    have hll := I3.bf.len
    rw [← hL] at hll
    obtain ⟨na, cap, rfl, l1, hv⟩ := R3.form
    have HV : Aside (∀ i x, L[i]? = some x → ∃ g, na = some ⟨g, 0, none⟩ ∧ g < w3.heap.size ∧ wc.heap.size ≤ g ∧ w3.cell? ⟨g, i * 2, none⟩ = some (.int .i64 (x.1 : Int)) ∧ w3.cell? ⟨g, i * 2 + 1, none⟩ = some (.int .i64 (x.2 : Int))) := hv
    have HAT : Aside (∀ k f o, L[k]? = some (f, o) → o ≤ 9 ∧ f % 2 ^ o = 0 ∧ lo ≤ f ∧ f + 2 ^ o ≤ lo + n ∧ endR L k ≤ f ∧ (∀ j f', k = j + 1 → L[j]? = some (f', o) → o < 9 → f = f' + 2 ^ o → ¬ f' % (2 * 2 ^ o) = 0)) := hat
    have hcl := cnt_le F (lo + n)
    have HI3 : Hid (BU w B U w3 p lo (lo + n) F) := I3
    have x1 : ((L.length : Nat) : Int) ≤ 1200 := by omega
    have x2 : ((L.length : Nat) : Int) ≤ cap := by omega
    generalize hLn : L.length = ln at *
    have HSM : Hid (sumK L ln = cnt F (lo + n) ∧ cnt F (lo + n) ≤ 5295 ∧ L.length = ln) := ⟨hsum, by omega, hLn⟩
    clear k2 HI R3 K3 I3 hL hll hv hat hsum hcl hLn
    go_upto_block 2 with fail
    go_cut [13] (fun v13 wx => v13 = .int .i64 ((cnt F (lo + n) : Nat) : Int) ∧ Hid (Dr w3 wx))
    case first =>
      go_wp2_with fail
      go_loopg [12, 13, 14] (ln + 1) (fun g v12 v13 v14 wq => ∃ (k en sm : Nat), v12 = .int .i64 (en : Int) ∧ v13 = .int .i64 (sm : Int) ∧ v14 = .int .i64 (k : Int) ∧ k ≤ ln ∧ ln + 1 - k ≤ g ∧ Hid (endR L k = en ∧ sumK L k = sm ∧ Dr w3 wq))
      case atStart => exact ⟨0, 0, 0, rfl, rfl, rfl, by omega, by omega, rfl, rfl, Dr.refl _⟩
      case round =>
        obtain ⟨k, en, sm, rfl, rfl, rfl, hk, hgk, HD⟩ := hrel
        by_cases hkl : k < ln
        · have y4 : (k : Int) < ln := by omega
          obtain ⟨x, hx⟩ : ∃ x, L[k]? = some x := ⟨L[k]'(by have := HSM.out.2.2; omega), List.getElem?_eq_getElem (by have := HSM.out.2.2; omega)⟩
          obtain ⟨f, o⟩ := x
          obtain ⟨gb, rfl, lg, _, cf, cx⟩ := HV.out k _ hx
          obtain ⟨t1, t2, t3, t4, t5, t6⟩ := HAT.out k f o hx
          have HKP : Aside (∀ n, Kp w3 (wr.drewN n)) := fun n => (HD.out.2.2.trans ⟨n, rfl⟩).kp
          have cf' : wr.cell? ⟨gb, k * 2, none⟩ = some (.int .i64 (f : Int)) := (HD.out.2.2.kp.cell (p := ⟨gb, k * 2, none⟩) lg).trans cf
          have cx' : wr.cell? ⟨gb, k * 2 + 1, none⟩ = some (.int .i64 (o : Int)) := (HD.out.2.2.kp.cell (p := ⟨gb, k * 2 + 1, none⟩) lg).trans cx
          have hE := endR_succ hx
          have hsu := sumK_succ hx
          have hsl := sumK_mono L (k + 1) (ln - (k + 1))
          rw [show k + 1 + (ln - (k + 1)) = ln by omega] at hsl
          rw [HD.out.2.1] at hsu
          rw [HD.out.1] at t5
          obtain ⟨s, hs, e5', e6, hp, hmd'⟩ := pow_facts o f t1 t2
          have HE5 : Hid ((2 : Int) ^ o = (s : Int)) := e5'
          have HMD : Hid ((f : Int).tmod (s : Int) = 0) := hmd'
          clear e5' hmd'
          simp only [← hs] at t4 t6 hE hsu
          clear t2 hs
          have hs1 : sm + s ≤ 5295 := by have := HSM.out.1; have := HSM.out.2.1; omega
          have HE : Hid (endR L (k + 1) = f + s ∧ sumK L (k + 1) = sm + s) := ⟨hE, hsu⟩
          have HD2 : Aside (∀ n, Dr w3 (wr.drewN n)) := fun n => HD.out.2.2.trans ⟨n, rfl⟩
          have y5 : (o : Int) ≤ 9 := by omega
          have y7 : (lo : Int) ≤ f := by omega
          have y8 : (f : Int) - lo ≤ n - s := by omega
          have y9 : ¬ (s : Int) = 0 := by omega
          have ya : (s : Int) ≤ 1000 := by omega
          have yb : (0 : Int) < s := by omega
          have yn : ¬ s = 0 := by omega
          have yc : (en : Int) ≤ f := by omega
          have yd : (sm : Int) ≤ 5295 := by omega
          have ye : (f : Int) ≤ 5295 := by omega
          have T6 : Aside (∀ j f', k = j + 1 → L[j]? = some (f', o) → o < 9 → f = f' + s → ¬ f' % (2 * s) = 0) := t6
          have HX : Hid (L[k]? = some (f, o)) := hx
          have HPS : Hid (0 < s) := hp
          clear t4 t6 hE hsu hsl hs1 cf cx e6 HD hx
          have HB1 : Hid (decide (f < lo) = false) := decide_eq_false (by omega)
          have HB2 : Hid (decide (f < en) = false) := decide_eq_false (by omega)
          have HB3 : Hid (decide ((o : Int) < 0) = false) := decide_eq_false (by omega)
          have HB4 : Hid (decide ((9 : Int) < (o : Int)) = false) := decide_eq_false (by omega)
          have HB5 : Hid (decide ((n : Int) - s < (f : Int) - lo) = false) := decide_eq_false (by omega)
          have HB6 : Hid (decide (9 < o) = false) := decide_eq_false (by omega)
          rcases k with _ | j
          · have cf0 : wr.cell? ⟨gb, 0, none⟩ = some (.int .i64 (f : Int)) := cf'
            have cx0 : wr.cell? ⟨gb, 1, none⟩ = some (.int .i64 (o : Int)) := cx'
            have y40 : (0 : Int) < ln := y4
            rw [show ((0 : Nat) : Int) = 0 from rfl]
            clear cf' cx' y4 T6 HX HKP HV HAT
            have e5 := HE5.out
            have hmd := HMD.out
            go_wp2_with fail
            go_quiet (fail)
            have b1 := HB1.out
            have b2 := HB2.out
            have b3 := HB3.out
            have b4 := HB4.out
            have b5 := HB5.out
            have b6 := HB6.out
            go_wp2
            clear e5 hmd
            go_roundg (ln + 1 - 1)
            case measure => omega
            case rel => exact ⟨1, f + s, sm + s, by go_num, by go_num, rfl, by omega, by omega, HE.out.1, HE.out.2, HD2.out _⟩
          · obtain ⟨x', hx'⟩ : ∃ x', L[j]? = some x' := ⟨L[j]'(by have := HSM.out.2.2; omega), List.getElem?_eq_getElem (by have := HSM.out.2.2; omega)⟩
            obtain ⟨f', o'⟩ := x'
            obtain ⟨gb', eg, lg', _, df, dx⟩ := HV.out j _ hx'
            cases eg
            have HCD : Aside (∀ n, (wr.drewN n).cell? ⟨gb, j * 2, none⟩ = some (.int .i64 (f' : Int)) ∧ (wr.drewN n).cell? ⟨gb, j * 2 + 1, none⟩ = some (.int .i64 (o' : Int))) := fun n => ⟨((HKP.out n).cell (p := ⟨gb, j * 2, none⟩) lg).trans df, ((HKP.out n).cell (p := ⟨gb, j * 2 + 1, none⟩) lg).trans dx⟩
            have u6 := T6.out j f' rfl
            obtain ⟨v1, _, _, v4, _, _⟩ := HAT.out j f' o' hx'
            have w1' : (o' : Int) ≤ 9 := by omega
            have w2' : (f' : Int) ≤ 5295 := by omega
            have w3' : (j : Int) + 1 < ln := by omega
            have HU6 : Hid (L[j]? = some (f', o) → o < 9 → f = f' + s → ¬ f' % (2 * s) = 0) := u6
            have HXJ : Hid (L[j]? = some (f', o')) := hx'
            have HB7 : Hid (decide ((0 : Int) < (j : Int) + 1) = true) := decide_eq_true (by omega)
            rw [show ((j + 1 : Nat) : Int) = (j : Int) + 1 by omega]
            clear v1 v4 df dx lg' T6 y4 u6 hx' HX HV HAT
            obtain ⟨df', dx'⟩ := HCD.out 0
            have df2 : wr.cell? ⟨gb, j * 2, none⟩ = some (.int .i64 (f' : Int)) := df'
            have dx2 : wr.cell? ⟨gb, j * 2 + 1, none⟩ = some (.int .i64 (o' : Int)) := dx'
            clear df' dx' HKP HCD
            by_cases cA : o' = o
            · subst cA
              have u7 := HU6.out HXJ.out
              clear HU6 HXJ
              by_cases cB : o' < 9
              · have x3 : (o' : Int) < 9 := by omega
                have x3b : decide ((o' : Int) < 9) = true := decide_eq_true x3
                have x3c : decide (o' < 9) = true := decide_eq_true cB
                have u8 := u7 cB
                clear u7
                by_cases cC : f = f' + s
                · have u9 := u8 cC
                  have hmm : (f' : Int).tmod (2 * (s : Int)) = ((f' % (2 * s) : Nat) : Int) := by
                    rw [Int.tmod_eq_emod_of_nonneg (by omega), show (2 * (s : Int)) = ((2 * s : Nat) : Int) by omega, ← Int.natCast_emod]
                  obtain ⟨md, hmd2⟩ : ∃ md, md = f' % (2 * s) := ⟨_, rfl⟩
                  rw [← hmd2] at hmm u9
                  have x4 : ((md : Int) == 0) = false := by simpa using u9
                  have x8 : (f : Int) = (f' : Int) + s := by omega
                  have x5 : ((f : Int) == (f' : Int) + s) = true := by rw [x8]; simp
                  clear u8 u9 hmd2 cC x8
                  have e5 := HE5.out
                  have hmd := HMD.out
                  go_wp2_with fail
                  go_quiet (fail)
                  have b1 := HB1.out
                  have b2 := HB2.out
                  have b3 := HB3.out
                  have b4 := HB4.out
                  have b5 := HB5.out
                  have b6 := HB6.out
                  have b7 := HB7.out
                  go_wp2
                  clear e5 hmd
                  go_roundg (ln + 1 - (j + 1 + 1))
                  case measure => omega
                  case rel => exact ⟨j + 1 + 1, f + s, sm + s, by go_num, by go_num, by go_num, by omega, by omega, HE.out.1, HE.out.2, HD2.out _⟩
                · have x5 : ((f : Int) == (f' : Int) + s) = false := by
                    have : ¬ (f : Int) = (f' : Int) + s := by omega
                    simpa using this
                  clear u8 cC
                  have e5 := HE5.out
                  have hmd := HMD.out
                  go_wp2_with fail
                  go_quiet (fail)
                  have b1 := HB1.out
                  have b2 := HB2.out
                  have b3 := HB3.out
                  have b4 := HB4.out
                  have b5 := HB5.out
                  have b6 := HB6.out
                  have b7 := HB7.out
                  go_wp2
                  clear e5 hmd
                  go_roundg (ln + 1 - (j + 1 + 1))
                  case measure => omega
                  case rel => exact ⟨j + 1 + 1, f + s, sm + s, by go_num, by go_num, by go_num, by omega, by omega, HE.out.1, HE.out.2, HD2.out _⟩
              · have x3 : ¬ (o' : Int) < 9 := by omega
                have x3b : decide ((o' : Int) < 9) = false := decide_eq_false x3
                have x3c : decide (o' < 9) = false := decide_eq_false cB
                clear u7
                have e5 := HE5.out
                have hmd := HMD.out
                go_wp2_with fail
                go_quiet (fail)
                have b1 := HB1.out
                have b2 := HB2.out
                have b3 := HB3.out
                have b4 := HB4.out
                have b5 := HB5.out
                have b6 := HB6.out
                have b7 := HB7.out
                go_wp2
                clear e5 hmd
                go_roundg (ln + 1 - (j + 1 + 1))
                case measure => omega
                case rel => exact ⟨j + 1 + 1, f + s, sm + s, by go_num, by go_num, by go_num, by omega, by omega, HE.out.1, HE.out.2, HD2.out _⟩
            · have x3 : ((o' : Int) == (o : Int)) = false := by
                have : ¬ (o' : Int) = (o : Int) := by omega
                simpa using this
              clear cA HU6 HXJ
              have e5 := HE5.out
              have hmd := HMD.out
              go_wp2_with fail
              go_quiet (fail)
              have b1 := HB1.out
              have b2 := HB2.out
              have b3 := HB3.out
              have b4 := HB4.out
              have b5 := HB5.out
              have b6 := HB6.out
              have b7 := HB7.out
              go_wp2
              clear e5 hmd
              go_roundg (ln + 1 - (j + 1 + 1))
              case measure => omega
              case rel => exact ⟨j + 1 + 1, f + s, sm + s, by go_num, by go_num, by go_num, by omega, by omega, HE.out.1, HE.out.2, HD2.out _⟩
        · have ek : k = ln := by omega
          subst ek
          have HD3 : Hid (sm = cnt F (lo + n) ∧ Dr w3 wr) := ⟨by rw [← HSM.out.1, HD.out.2.1], HD.out.2.2⟩
          clear HV HAT HD HSM HI3
          go_wp2_with fail
          go_meet
          case rel => exact ⟨by rw [HD3.out.1], HD3.out.2⟩
    case rest =>
      obtain ⟨rfl, HD⟩ := hcut
      have kt := told_any (HT.out.kp (HI3.out.kps HD.out.kp).kp)
      have HK : Hid (BU w B U wc p lo (lo + n) F) := HI3.out.kps HD.out.kp
      have hc5 : ((cnt F (lo + n) : Nat) : Int) ≤ 5295 := by have := HSM.out.2.1; omega
      have kf : Aside (∀ w9, Kp wc w9 → Calls Tryd.prog 15 #[.pointer (some ⟨p, 0, none⟩)] w9 fun e w' => e = .returned (.int .i64 ((cnt F (lo + n) : Nat) : Int)) ∧ w' = w9) := fun w9 k9 => free_any (HK.out.kps k9).bf
      clear HI3 HV HAT HD HSM
      generalize cnt F (lo + n) = cn at *
      go_wp2_with fail
      with_reducible refine kt.mono ?_
      rintro e w9 ⟨rfl, K9⟩
      have k10 := kf.out w9 K9
      have HK2 : Hid (Kp w w9) := (HK.out.kps K9).kp
      clear K9 kt kf HK
      go_wp2_with fail
      with_reducible refine k10.mono ?_
      rintro e w' ⟨rfl, rfl⟩
      go_wp2
      go_ret
      exact ⟨rfl, HK2.out⟩
theorem bruns_any (a0 a1 : Int) (nc : Option Addr) (mc capc : Nat) (V : Nat → Int × Int × Int) (w : World) (C : Steps w nc mc V) (T : TAB w) :
    Calls Tryd.prog 6 #[.int .i64 a0, .int .i64 a1, .slice nc mc capc] w fun e w' => e = .returned (.bool true) ∧ Kp w w' := by
  obtain ⟨lo, m, r, n, e1, e2, e3, e4, h1, h2, h3, _⟩ := few7 a0 a1
  exact runs_walk a0 a1 lo m r n nc mc capc V w C T e1 e2 e3 e4 h1 h2 h3
end Go.Proofs.YtlclpnaaaiimaaaDoor
