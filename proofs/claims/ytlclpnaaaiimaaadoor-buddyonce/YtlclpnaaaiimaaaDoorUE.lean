/- BuddyOnce: the walk. -/
import Derived.Test.YtlclpnaaaiimaaaDoorUD
namespace Go.Proofs.YtlclpnaaaiimaaaDoor
open Go.RowKit

/-- Between the steps of BuddyOnce: what is used is what is not free. -/
structure OI (W : World) (B : Nat) (U : Nat → Prop) (w : World) (p lo n ub : Nat) (F : Nat → Bool) : Prop where
  bu : BU W B U w p lo (lo + n) F
  on : ON w ub n (fun k => !F (lo + k))
  ul : B ≤ ub
theorem OI.kps {W w w' : World} {B : Nat} {U : Nat → Prop} {p lo n ub : Nat} {F : Nat → Bool} (h : OI W B U w p lo n ub F) (k : Kp w w') : OI W B U w' p lo n ub F := ⟨h.bu.kps k, h.on.kp k, h.ul⟩
set_option maxHeartbeats 16000000 in
set_option maxRecDepth 1000000 in
theorem once_walk (a0 a1 : Int) (lo m r n : Nat) (nc : Option Addr) (mc capc : Nat) (fc : Nat → Int) (w : World) (C : NSK .i64 w nc mc fc) (T : TAB w)
    (e1 : bits .and .i64 a0 4095 = (lo : Int)) (e2 : bits .and .i64 a1 2047 = (m : Int)) (e3 : (m : Int).tmod 1200 = (r : Int)) (e4 : 1 + (r : Int) = (n : Int)) (h1 : lo ≤ 4095) (h2 : 1 ≤ n) (h3 : n ≤ 1200) :
    Calls Tryd.prog 4 #[.int .i64 a0, .int .i64 a1, .slice nc mc capc] w fun e w' => e = .returned (.bool true) ∧ Kp w w' := by
  have k1 := new_ok lo n w T (by omega) (by omega)
  have CC : Aside (NSK .i64 w nc mc fc) := C
  have HT : Hid (TAB w) := T
  have z1 : (n : Int) ≤ 1200 := by omega
  have z2 : (1 : Int) ≤ n := by omega
  have z3 : (lo : Int) ≤ 4095 := by omega
  clear C T
  go_enter Tryd.func4, Tryd.ntmps4
  go_wp2_with fail
  with_reducible refine k1.mono ?_
  rintro e w1 ⟨⟨p, U, rfl, B1, N1⟩, K1⟩
  clear k1 e1 e2 e3 e4
  have hmk := make_marks n w1 (by omega)
  obtain ⟨B, hB⟩ : ∃ B, B = w1.heap.size := ⟨_, rfl⟩
  obtain ⟨w2, h4⟩ : ∃ w2, w2 = w1.alloc (.cells (offB n) 4) := ⟨_, rfl⟩
  have k12 : Kp w1 w2 := by rw [h4]; exact (Kp.refl w1).alloc _
  have I0 : Hid (OI w B U w2 p lo n B (ivl lo (lo + n))) := ⟨⟨B1.kp k12, K1.trans k12, fun k hk => ⟨N1 k hk, by rw [hB]; exact B1.own k hk⟩, by rw [hB]; exact k12.size⟩, by
    rw [h4, hB]
    exact (ON.made w1 n).like (fun i hi => by rw [(ivl_iff ..).2 (by omega)]; rfl), Nat.le_refl _⟩
  have hcn : cnt (ivl lo (lo + n)) (lo + n) = n := by
    rw [cnt_step (a := lo) (b := lo + n) (by omega) (fun k a b => (ivl_iff ..).2 ⟨a, b⟩), (cnt_zero lo).2 (fun k hk => by
      cases hv : ivl lo (lo + n) k
      · rfl
      · have := (ivl_iff ..).1 hv; omega)]
    omega
  rw [← h4, ← hB] at hmk
  clear B1 N1 K1 k12 h4 hB
  generalize offB n = OB at *
  go_wp2_with fail
  clear hmk
  go_loopg [10, 11] 81 (fun g v10 v11 wr => ∃ (i c : Nat) (F : Nat → Bool), v10 = .int .i64 (c : Int) ∧ v11 = .int .i64 (i : Int) ∧ i ≤ 80 ∧ c ≤ 1200 ∧ 81 - i ≤ g ∧ Hid (OI w B U wr p lo n B F ∧ cnt F (lo + n) = c))
  case atStart => exact ⟨0, n, _, rfl, rfl, by omega, by omega, by omega, I0.out, hcn⟩
  case round =>
    clear I0 hcn
    obtain ⟨i, c, F, rfl, rfl, hi, hcl, hg, HI⟩ := hrel
    have y0 : (c : Int) ≤ 1200 := by omega
    by_cases hlt : i < mc ∧ i < 80
    · have y1 : (i : Int) < mc := by omega
      have y2 : (i : Int) < 80 := by omega
      obtain ⟨⟨cb, co, rfl, d1, d2⟩, d3⟩ := CC.out i hlt.1
      have cc := (HI.out.1.bu.kp.cell (p := ⟨cb, co + i, none⟩) d1).trans d2
      obtain ⟨t, o, g1, g2, g3, g4, g5⟩ := place_of (fc i) 10 (by omega)
      generalize fc i = ci at *
      rw [show ((10 : Nat) : Int) = 10 from rfl] at g1 g2 g3 g4
      have y3 : (o : Int) < 10 := by omega
      have k2 := runs_any HI.out.1.bu.bf
      clear d1 d2 d3
      go_wp2_with fail
      with_reducible refine k2.mono ?_
      rintro e w3 ⟨⟨v, rfl, R3⟩, K3⟩
      have I3 := HI.out.1.kps K3
      obtain ⟨L, hL⟩ : ∃ L, L = rl F (lo + n) lo := ⟨_, rfl⟩
      rw [← hL] at R3
      have hll := I3.bu.bf.len
      have hor := I3.bu.bf.ord
      rw [← hL] at hll hor
      obtain ⟨na, cap, rfl, l1, hv⟩ := R3.form
      have HV : Aside (∀ i x, L[i]? = some x → ∃ g, na = some ⟨g, 0, none⟩ ∧ g < w3.heap.size ∧ wr.heap.size ≤ g ∧ w3.cell? ⟨g, i * 2, none⟩ = some (.int .i64 (x.1 : Int)) ∧ w3.cell? ⟨g, i * 2 + 1, none⟩ = some (.int .i64 (x.2 : Int))) := hv
      have HI3 : Hid (OI w B U w3 p lo n B F ∧ cnt F (lo + n) = c ∧ L = rl F (lo + n) lo) := ⟨I3, HI.out.2, hL⟩
      have HO : Aside (∀ x ∈ L, x.2 ≤ 9 ∧ x.1 ≤ 1048576) := hor
      have x1 : ((L.length : Nat) : Int) ≤ 1200 := by omega
      have x2 : ((L.length : Nat) : Int) ≤ cap := by omega
      clear k2 HI R3 K3 I3 hL hll hor hv cc
      generalize hLn : L.length = ln at *
      go_wp2_with fail
      go_loopg [13, 15] (ln + 1) (fun g v13 v15 wq => ∃ (k : Nat) (ms : Int), v13 = .int .i64 ms ∧ v15 = .int .i64 (k : Int) ∧ k ≤ ln ∧ ln + 1 - k ≤ g ∧ wq = w3 ∧ Hid (mst L k = ms))
      case atStart => exact ⟨0, -1, rfl, rfl, by omega, by omega, rfl, rfl⟩
      case round =>
        obtain ⟨k, ms, rfl, rfl, hk, hgk, rfl, HM⟩ := hrel
        have hm9 := mst_le (fun x hx => (HO.out x hx).1) k
        rw [HM.out] at hm9
        obtain ⟨m1, m2⟩ := hm9
        by_cases hkl : k < ln
        · have y4 : (k : Int) < ln := by omega
          obtain ⟨x, hx⟩ : ∃ x, L[k]? = some x := ⟨L[k]'(by omega), List.getElem?_eq_getElem (by omega)⟩
          obtain ⟨gb, rfl, _, _, _, cx⟩ := HV.out k x hx
          have hx9 := (HO.out x (List.mem_of_getElem? hx)).1
          obtain ⟨xf, xo⟩ := x
          have y5 : (xo : Int) ≤ 9 := by have : xo ≤ 9 := hx9; omega
          have cx' : wr.cell? ⟨gb, k * 2 + 1, none⟩ = some (.int .i64 (xo : Int)) := cx
          have hst : mst L (k + 1) = if ms < (xo : Int) then (xo : Int) else ms := by
            conv => lhs; unfold mst
            rw [hx, HM.out]
          clear cx hx9
          by_cases c1 : ms < (xo : Int)
          · rw [if_pos c1] at hst
            have HM2 : Hid (mst L (k + 1) = (xo : Int)) := hst
            clear hst HM hx
            go_wp2
            go_roundg (ln + 1 - (k + 1))
            case measure => omega
            case rel => exact ⟨k + 1, xo, rfl, by go_num, by omega, by omega, rfl, HM2⟩
          · rw [if_neg c1] at hst
            have HM2 : Hid (mst L (k + 1) = ms) := hst
            clear hst HM hx
            go_wp2
            go_roundg (ln + 1 - (k + 1))
            case measure => omega
            case rel => exact ⟨k + 1, ms, rfl, by go_num, by omega, by omega, rfl, HM2⟩
        · have ek : k = ln := by omega
          subst ek
          have hma := mst_all (L := L) (o := o)
          rw [hLn, HM.out] at hma
          have BFo := HI3.out.1.bu.bf
          have hL2 := HI3.out.2.2
          rcases tk_or F o with ⟨o', i', t⟩ | t
          · have hge : (o : Int) ≤ ms := hma.2 ⟨_, by rw [hL2]; exact t.mem BFo, t.le⟩
            obtain ⟨j, ej, hA, r1, r2, r3⟩ := t.place BFo
            have k3 := take_ok BFo o o' i' t
            rw [r3, ej] at k3
            obtain ⟨e5, e6⟩ := pow_wrap g5
            have hp := Nat.two_pow_pos o
            have hmd : ((j * 2 ^ o : Nat) : Int).tmod ((2 ^ o : Nat) : Int) = 0 := by
              rw [Int.tmod_eq_emod_of_nonneg (by omega), ← Int.natCast_emod, Nat.mul_mod_left]; rfl
            have hcs := cnt_subF hA r2
            have hsf : ∀ k, subF F o j k = (F k && !decide (j * 2 ^ o ≤ k ∧ k < j * 2 ^ o + 2 ^ o)) := fun k => by
              unfold subF
              congr 2
              exact decide_eq_decide.2 (blk_iff k o j)
            have HA : Hid ((∀ k, j * 2 ^ o ≤ k → k < j * 2 ^ o + 2 ^ o → F k = true) ∧ (∀ k, subF F o j k = (F k && !decide (j * 2 ^ o ≤ k ∧ k < j * 2 ^ o + 2 ^ o))) ∧ cnt (subF F o j) (lo + n) + 2 ^ o = cnt F (lo + n)) := ⟨fun k a b => hA k ((blk_iff ..).2 ⟨a, b⟩), hsf, hcs⟩
            clear hma BFo hL2 t hA hcs r3 ej hsf
            generalize subF F o j = F1 at *
            generalize j * 2 ^ o = f at *
            generalize 2 ^ o = s at *
            have y4 : (lo : Int) ≤ f := by omega
            have y5 : (f : Int) + s ≤ lo + n := by omega
            have y6 : (0 : Int) < s := by omega
            have y7 : ¬ (s : Int) = 0 := by omega
            have y8 : (f : Int) - lo ≤ n - s := by omega
            obtain ⟨c', hc'⟩ : ∃ c' : Nat, c' = c - s := ⟨_, rfl⟩
            have hcc : (c : Int) - s = (c' : Int) ∧ c' ≤ 1200 ∧ cnt F1 (lo + n) = c' := by have := HA.out.2.2; have := HI3.out.2.1; omega
            have HC' : Hid (c' ≤ 1200 ∧ cnt F1 (lo + n) = c') := hcc.2
            have y9 := hcc.1
            clear hcc hc' HO HV HM
            go_wp2_with fail
            with_reducible refine k3.mono ?_
            rintro e w4 ⟨rfl, B4, F4⟩
            have HI4 : Hid (BU w B U w4 p lo (lo + n) F1 ∧ ON w4 B n (fun k => !F (lo + k) || decide (f ≤ lo + k ∧ lo + k < f + 0))) := ⟨HI3.out.1.bu.next B4 F4, (HI3.out.1.on.fr F4 (fun h => by have := (HI3.out.1.bu.new B h).2; omega)).like (fun i hi => by rw [decide_eq_false (by omega), Bool.or_false])⟩
            clear HI3 B4 F4 k3
            go_wp2_with fail
            simp only [show decide (f < lo) = false from decide_eq_false (by omega), Bool.false_or]
            go_loopg [18] (s + 1) (fun g v18 wq => ∃ (k : Nat), v18 = .int .i64 (k : Int) ∧ k ≤ s ∧ s + 1 - k ≤ g ∧ Hid (BU w B U wq p lo (lo + n) F1 ∧ ON wq B n (fun x => !F (lo + x) || decide (f ≤ lo + x ∧ lo + x < f + k))))
            case atStart => exact ⟨0, rfl, by omega, by omega, HI4⟩
            case round =>
              clear HI4
              obtain ⟨k, rfl, hk, hgk, HJ⟩ := hrel
              by_cases hks : k < s
              · have v1 : (k : Int) < s := by omega
                obtain ⟨q, hq⟩ : ∃ q : Nat, q = f - lo + k := ⟨_, rfl⟩
                have v2 : (f : Int) - lo + k = (q : Int) := by omega
                have v3 : (q : Int) < n := by omega
                have hFq : F (lo + q) = true := HA.out.1 (lo + q) (by omega) (by omega)
                have co := HJ.out.2.cell q (by omega)
                have fo := HJ.out.2.frz q
                rw [hFq, decide_eq_false (by omega)] at co
                have co' : wr.cell? ⟨B, q, none⟩ = some (.bool false) := co
                have k4 := has_any HJ.out.1.bf ((f : Int) + k)
                rw [show (f : Int) + k = ((f + k : Nat) : Int) by omega, hasF_nat, show F1 (f + k) = false by
                  rw [HA.out.2.1, decide_eq_true (by omega)]; simp] at k4
                rw [show ((f + k : Nat) : Int) = (f : Int) + k by omega] at k4
                have HQ : Hid (q = f - lo + k) := hq
                clear co hFq hq
                go_wp2_with fail
                with_reducible refine k4.mono ?_
                rintro e w5 ⟨rfl, D5⟩
                have c5 := (D5.kp.cell (p := ⟨B, q, none⟩) HJ.out.2.lt).trans co'
                have f5 := (HJ.out.2.kp D5.kp).frz q
                have HJ2 : Hid (BU w B U (w5.setCell ⟨B, q, none⟩ (.bool true)) p lo (lo + n) F1 ∧ ON (w5.setCell ⟨B, q, none⟩ (.bool true)) B n (fun x => !F (lo + x) || decide (f ≤ lo + x ∧ lo + x < f + (k + 1)))) := by
                  have fr : Fr (· = B) w5 (w5.setCell ⟨B, q, none⟩ (.bool true)) := (Fr.refl (· = B) w5).set ⟨B, q, none⟩ _ (show B = B from rfl)
                  have hq := HQ.out
                  refine ⟨(HJ.out.1.kps D5.kp).frs fr (fun i h => by omega) (by have := HJ.out.1.b1; omega), ((HJ.out.2.kp D5.kp).set q true).like (fun i hi => ?_)⟩
                  by_cases e : i = q
                  · rw [if_pos e, decide_eq_true (by omega), Bool.or_true]
                  · rw [if_neg e]
                    congr 1
                    apply decide_eq_decide.2
                    omega
                clear HJ HQ k4 D5 co' fo
                go_wp2
                go_roundg (s + 1 - (k + 1))
                case measure => omega
                case rel => exact ⟨k + 1, by go_num, by omega, by omega, HJ2⟩
              · have ek : k = s := by omega
                subst ek
                have HJ3 : Hid (OI w B U wr p lo n B F1) := ⟨HJ.out.1, HJ.out.2.like (fun i hi => by
                  show (!F1 (lo + i)) = (!F (lo + i) || decide (f ≤ lo + i ∧ lo + i < f + k))
                  rw [HA.out.2.1]
                  cases F (lo + i) <;> simp), Nat.le_refl _⟩
                have k5 := free_any HJ.out.1.bf
                rw [HC'.out.2] at k5
                clear HJ
                go_wp2_with fail
                with_reducible refine k5.mono ?_
                rintro e w' ⟨rfl, rfl⟩
                clear k5
                go_wp2
                go_roundg (81 - (i + 1))
                case measure => omega
                case rel => exact ⟨i + 1, c', F1, rfl, by go_num, by omega, HC'.out.1, by omega, HJ3.out, HC'.out.2⟩
          · have hge : ¬ (o : Int) ≤ ms := fun h => by
              obtain ⟨x, h1, h2⟩ := hma.1 h
              have := no_mem BFo t x (by rw [← hL2]; exact h1)
              omega
            have k3 := take_no BFo o (by omega) t
            have HI4 : Hid (OI w B U wr p lo n B F ∧ cnt F (lo + n) = c) := ⟨HI3.out.1, HI3.out.2.1⟩
            clear hma BFo hL2 t HI3 HM HO HV
            go_wp2_with fail
            with_reducible refine k3.mono ?_
            rintro e w' ⟨rfl, rfl⟩
            clear k3
            go_wp2
            go_roundg (81 - (i + 1))
            case measure => omega
            case rel => exact ⟨i + 1, c, F, rfl, by go_num, by omega, by omega, by omega, HI4⟩
    · have NLT : Hid (¬ (i < mc ∧ i < 80)) := hlt
      have kt := told_any (HT.out.kp HI.out.1.bu.kp)
      have HK : Hid (Kp w wr) := HI.out.1.bu.kp
      clear hlt HI
      by_cases hlt : (i : Int) < mc
      · have y2 : ¬ (i : Int) < 80 := by have := NLT.out; omega
        go_wp2_with fail
        with_reducible refine kt.mono ?_
        rintro e w9 ⟨rfl, K9⟩
        have HK2 : Hid (Kp w w9) := HK.out.trans K9
        clear K9 kt
        go_wp2
        go_ret
        exact ⟨rfl, HK2.out⟩
      · go_wp2_with fail
        with_reducible refine kt.mono ?_
        rintro e w9 ⟨rfl, K9⟩
        have HK2 : Hid (Kp w w9) := HK.out.trans K9
        clear K9 kt
        go_wp2
        go_ret
        exact ⟨rfl, HK2.out⟩
theorem once_any (a0 a1 : Int) (nc : Option Addr) (mc capc : Nat) (fc : Nat → Int) (w : World) (C : NSK .i64 w nc mc fc) (T : TAB w) :
    Calls Tryd.prog 4 #[.int .i64 a0, .int .i64 a1, .slice nc mc capc] w fun e w' => e = .returned (.bool true) ∧ Kp w w' := by
  obtain ⟨lo, m, r, n, e1, e2, e3, e4, h1, h2, h3, _⟩ := few7 a0 a1
  exact once_walk a0 a1 lo m r n nc mc capc fc w C T e1 e2 e3 e4 h1 h2 h3
end Go.Proofs.YtlclpnaaaiimaaaDoor
