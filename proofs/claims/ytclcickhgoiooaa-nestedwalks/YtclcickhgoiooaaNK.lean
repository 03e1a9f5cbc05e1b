/- nested: Walk, on. -/
import Derived.Test.YtclcickhgoiooaaNL
namespace Go.Proofs.Ytclcickhgoiooaa
open Go.RowKit
set_option maxRecDepth 10000

theorem RX.set {w : World} {b : Nat} {t : TypeId} {V : List Value} (h : RX w b t V) (j : Nat) (v : Value) : RX (w.setCell ⟨b, j, none⟩ v) b t (V.set j v) := by
  have := heap_setCell_same w b j _ _ v h
  unfold RX
  simpa using this
/-- The leaf's block and the fault's. -/
def made5 (w : World) (s : SV) (f : FV) : World := (w.alloc (.cells (encS s).toArray 80)).alloc (.cells (encF f).toArray 35)
theorem made5_kp (w : World) (s : SV) (f : FV) : Kp w (made5 w s f) := ((Kp.refl w).alloc _).alloc _
theorem made5_s (w : World) (s : SV) (f : FV) : RX (made5 w s f) w.heap.size 80 (encS s) := (RX.made w _ _).kp ((Kp.refl _).alloc _)
theorem made5_f (w : World) (s : SV) (f : FV) : RX (made5 w s f) (w.heap.size + 1) 35 (encF f) := by
  have := RX.made (w.alloc (.cells (encS s).toArray 80)) 35 (encF f)
  rw [show (w.alloc (.cells (encS s).toArray 80)).heap.size = w.heap.size + 1 by simp] at this
  exact this

/-- A walk that was stopped has read fewer. -/
theorem goW_stopped (s : Int) (u : Nat) (rd : Nat → Nat × Bool) : ∀ n l t, n + l = 4 → (goW s u rd n l t).2.1 = -1 → (goW s u rd n l t).1.length ≤ n - 1
  | 0, _, _, _, h => by cases h
  | n + 1, l, t, hn, h => by
    cases ho : (rd (atN t u l)).2
    · rw [goW_stop ho]; exact Nat.zero_le _
    · by_cases hk : (dvN s l (rd (atN t u l)).1).k = 1
      · rw [goW_on ho hk] at h ⊢
        have hn1 : 1 ≤ n := by
          rcases (by omega : 1 ≤ n ∨ n = 0) with c | c
          · exact c
          · subst c
            have : l = 3 := by omega
            subst this
            exact absurd hk (dv_last s _)
        have := goW_stopped s u rd n (l + 1) (dvN s l (rd (atN t u l)).1).a (by omega) h
        show (goW s u rd n (l + 1) _).1.length + 1 ≤ n + 1 - 1
        omega
      · rw [goW_end ho hk] at h
        have h : endN _ _ = -1 := h
        unfold endN at h
        split at h
        · cases h
        · split at h
          · cases h
          · split at h <;> cases h
/-- Walk, on: its answer, by what firstLeaf and Second tell. -/
def onC (rd : Nat → Nat × Bool) (two root u : Nat) (acc : Int) (o : OV) (f : FV) (n : Nat) : Prop :=
  ((flF rd two root u).k ≠ 0 ∧ o = zO ∧ f = ⟨(flF rd two root u).s, (flF rd two root u).k, (flF rd two root u).l, (flF rd two root u).a, acc == 2⟩ ∧ n = flN rd two root u) ∨
  ((flF rd two root u).k = 0 ∧ alP (flL rd two root u).d.r (flL rd two root u).d.q (flL rd two root u).d.x acc = false ∧ o = zO ∧ f = ⟨1, 2, ((flL rd two root u).l : Int), u, acc == 2⟩ ∧ n = flN rd two root u) ∨
  ((flF rd two root u).k = 0 ∧ alP (flL rd two root u).d.r (flL rd two root u).d.q (flL rd two root u).d.x acc = true ∧ seK rd two (outN u (flL rd two root u).l (flL rd two root u).d.k (flL rd two root u).d.a) acc ≠ 0 ∧ o = zO ∧ f = seF rd two (outN u (flL rd two root u).l (flL rd two root u).d.k (flL rd two root u).d.a) acc ∧ n = flN rd two root u + slN rd two (outN u (flL rd two root u).l (flL rd two root u).d.k (flL rd two root u).d.a)) ∨
  ((flF rd two root u).k = 0 ∧ alP (flL rd two root u).d.r (flL rd two root u).d.q (flL rd two root u).d.x acc = true ∧ seK rd two (outN u (flL rd two root u).l (flL rd two root u).d.k (flL rd two root u).d.a) acc = 0 ∧ o = ⟨(seO rd two (outN u (flL rd two root u).l (flL rd two root u).d.k (flL rd two root u).d.a) acc).f, (seO rd two (outN u (flL rd two root u).l (flL rd two root u).d.k (flL rd two root u).d.a) acc).i, (flL rd two root u).d.r, (flL rd two root u).d.q, (flL rd two root u).d.x, (seO rd two (outN u (flL rd two root u).l (flL rd two root u).d.k (flL rd two root u).d.a) acc).r, (seO rd two (outN u (flL rd two root u).l (flL rd two root u).d.k (flL rd two root u).d.a) acc).q, (seO rd two (outN u (flL rd two root u).l (flL rd two root u).d.k (flL rd two root u).d.a) acc).x⟩ ∧ f = zF ∧ n = flN rd two root u + slN rd two (outN u (flL rd two root u).l (flL rd two root u).d.k (flL rd two root u).d.a))
theorem flN_le (rd : Nat → Nat × Bool) (two root u : Nat) : flN rd two root u ≤ 20 := by
  have l1 := goW_len 1 u (rd1 rd two) 4 0 root
  have l2 := sumN_le rd two (g1 rd two root u).1
  have l3 : (g1 rd two root u).1.length ≤ 4 := l1
  unfold flN
  split
  · rename_i c
    have l4 := enN_le rd two (stP rd two root u)
    have : (g1 rd two root u).1.length ≤ 3 := by
      unfold g1 at *
      exact goW_stopped 1 u (rd1 rd two) 4 0 root rfl c
    omega
  · omega

set_option maxHeartbeats 8000000 in
theorem walk_on {w : World} {S : Nat → Prop} {p N o : Nat} {B : Nat → Nat → Nat} (h : PMo w S p N o B) (two root u : Nat) (acc : Int) (ht : two < 18446744073709551616) (hu : u < 281474976710656) (hr1 : root % 4096 = 0) (hr2 : root < 1099511627776) (ho : o < 1000000000000000000) (ov : OV) (fv : FV) (n : Nat) (hc : onC (rdB N B) two root u acc ov fv n) :
    Calls Try.prog 6 #[.pointer (some ⟨p, 0, none⟩), .agg #[.int .u64 (two : Int), .bool true, .int .u64 (root : Int)], .int .u64 (u : Int), .int .i64 acc] w fun e w' => e = .returned (.tuple #[ouV ov, faV fv, .int .i64 (n : Int)]) ∧ PMo w' S p N (o + 24) B ∧ Fr S w w' := by
  obtain ⟨st, hst⟩ : ∃ st, (acc == 2) = st := ⟨_, rfl⟩
  obtain ⟨w3, hw3⟩ : ∃ w3, w3 = made4 w two root true := ⟨_, rfl⟩
  have K3 : Kp w w3 := by rw [hw3]; exact made4_kp w two root true
  have W3 : WB w two root true w3 := by rw [hw3]; exact made4_wb w two root true
  unfold made4 at hw3
  have d1 : decide ((281474976710656 : Int) ≤ (u : Int)) = false := decide_eq_false (by omega)
  have d2 : decide (281474976710656 ≤ u) = false := decide_eq_false (by omega)
  have d3 : decide ((1099511627776 : Int) ≤ (root : Int)) = false := decide_eq_false (by omega)
  have d4 : decide (1099511627776 ≤ root) = false := decide_eq_false (by omega)
  have e1 : ((root : Int) % 4096 != 0) = false := by rw [show (root : Int) % 4096 = 0 by omega]; rfl
  have e2 : (root : Int) % 4096 = 0 := by omega
  have kf := firstLeaf_any (h.kp K3) two root true u ht (by omega) (by omega) ho
  have fl := flN_le (rdB N B) two root u
  have HP : Hid (∀ v v', PMo v S p N (o + 24) B → Fr (fun i => w.heap.size ≤ i) v v' → PMo v' S p N (o + 24) B) := fun v v' H k => H.fr k (fun i hi c => by have := h.own i hi; omega)
  have HS : Hid (∀ i, S i → i < w.heap.size) := h.own
  unfold onC at hc
  generalize flL (rdB N B) two root u = LL at *
  generalize flF (rdB N B) two root u = FF at *
  generalize flN (rdB N B) two root u = nn at *
  obtain ⟨xl, xp, xu, xk, xa, xr, xq, xx, xf⟩ := LL
  obtain ⟨fs, fk, fl', fa, ft⟩ := FF
  have kf : Calls Try.prog 29 #[.pointer (some ⟨p, 0, none⟩), .agg #[.int .u64 (two : Int), .bool true, .int .u64 (root : Int)], .int .u64 (u : Int)] w3 fun e w' => e = .returned (.tuple #[.agg #[.int .i64 (xl : Int), .int .u64 (xp : Int), .int .u64 (xu : Int), .int .i64 xk, .int .u64 (xa : Int), .bool xr, .bool xq, .bool xx, .int .i64 xf], .agg #[.int .i64 fs, .int .i64 fk, .int .i64 fl', .int .u64 (fa : Int), .bool ft], .int .i64 (nn : Int)]) ∧ PMo w' S p N (o + 20) B ∧ Fr S w3 w' := kf
  have HE : Hid (Kp w w3 ∧ WB w two root true w3 ∧ o < 1000000000000000000 ∧ two < 18446744073709551616) := ⟨K3, W3, ho, ht⟩
  have zn : (nn : Int) ≤ 20 := by omega
  clear K3 W3 hu hr1 hr2 h ho ht fl
  rw [hst] at hc
  rcases hc with ⟨c1, rfl, rfl, rfl⟩ | ⟨c1, c2, rfl, rfl, rfl⟩ | hc
  · have c1 : ¬ fk = 0 := c1
    have y1 : (fk == 0) = false := by rw [beq_eq_false_iff_ne]; exact c1
    have y2 : (fk != 0) = true := by rw [bne_iff_ne]; exact c1
    clear c1
    go_enter Try.func6, Try.ntmps6
    go_wp2_with fail
    rw [← hw3]
    with_reducible refine kf.mono ?_
    rintro e w4 ⟨rfl, M4, F4⟩
    go_wp2_with fail
    obtain ⟨w5, hw5⟩ : ∃ w5, w5 = made5 w4 ⟨xl, xp, xu, ⟨xk, xa, xr, xq, xx, xf⟩⟩ ⟨fs, fk, fl', fa, st⟩ := ⟨_, rfl⟩
    have k5 : Kp w4 w5 := by rw [hw5]; exact made5_kp _ _ _
    have CG : RX w5 (w4.heap.size + 1) 35 (encF ⟨fs, fk, fl', fa, st⟩) := by rw [hw5]; exact made5_f _ _ _
    have W5 := (HE.out.2.1.fr F4 HS.out).kp k5
    change Code.wp _ _ _ _ (made5 w4 ⟨xl, xp, xu, ⟨xk, xa, xr, xq, xx, xf⟩⟩ ⟨fs, fk, fl', fa, st⟩)
    rw [← hw5]
    have HF : Hid _ := W5.fin HP.out ((M4.kp k5).le (by omega)) (((HE.out.1.fr S).trans F4).trans (k5.fr S)) zO ⟨fs, fk, fl', fa, st⟩
    have CO := W5.co
    have CF := W5.cf
    have sz := F4.size
    have sz3 := HE.out.2.1.sz
    have n1 : ¬ w4.heap.size + 1 = w.heap.size + 1 := by omega
    have n2 : ¬ w.heap.size + 1 = w4.heap.size + 1 := by omega
    have n3 : ¬ w4.heap.size + 1 = w.heap.size + 2 := by omega
    have n4 : ¬ w.heap.size + 2 = w4.heap.size + 1 := by omega
    have o0 := CO.cell (j := 0) rfl; have o1 := CO.cell (j := 1) rfl; have o2 := CO.cell (j := 2) rfl; have o3 := CO.cell (j := 3) rfl; have o4 := CO.cell (j := 4) rfl; have o5 := CO.cell (j := 5) rfl; have o6 := CO.cell (j := 6) rfl; have o7 := CO.cell (j := 7) rfl; have fo := CO.fz
    have g0 := CF.cell (j := 0) rfl; have g1 := CF.cell (j := 1) rfl; have g2 := CF.cell (j := 2) rfl; have g3 := CF.cell (j := 3) rfl; have g4 := CF.cell (j := 4) rfl; have fg := CF.fz
    have h0 := CG.cell (j := 0) rfl; have h1 := CG.cell (j := 1) rfl; have h2 := CG.cell (j := 2) rfl; have h3 := CG.cell (j := 3) rfl; have h4 := CG.cell (j := 4) rfl; have fh := CG.fz
    clear W5 CO CF CG M4 F4 kf HE HP hw3 d1 d2 d3 d4 hw5 k5 sz sz3
    go_region
    all_goals
      go_wp2
      rw [← putR_five, ← putR_eight]
      change bodyPost _ _ _ _ _ (put2 _ _ _ zO ⟨fs, fk, fl', fa, st⟩).drew
      exact bodyPost_ret (res_of rfl rfl rfl (HF.out.1.kp (Kp.refl _).drew) (HF.out.2.1.kp (Kp.refl _).drew)) rfl ⟨rfl, HF.out.2.2.1.kp (Kp.refl _).drew, HF.out.2.2.2.drew⟩
  · have c1 : fk = 0 := c1
    subst c1
    have c2 : alP xr xq xx acc = false := c2
    have kr := fun w => refuses_any xr xq xx acc w
    rw [c2] at kr
    clear c2
    go_enter Try.func6, Try.ntmps6
    go_wp2_with fail
    rw [← hw3]
    with_reducible refine kf.mono ?_
    rintro e w4 ⟨rfl, M4, F4⟩
    go_wp2_with fail
    with_reducible refine (kr _).mono ?_
    rintro e w6 ⟨rfl, K6⟩
    have K6 : Kp (made5 w4 ⟨xl, xp, xu, ⟨xk, xa, xr, xq, xx, xf⟩⟩ ⟨fs, 0, fl', fa, ft⟩) w6 := K6
    have k6 : Kp w4 w6 := (made5_kp _ _ _).trans K6
    have CG := (made5_f w4 ⟨xl, xp, xu, ⟨xk, xa, xr, xq, xx, xf⟩⟩ ⟨fs, 0, fl', fa, ft⟩).kp K6
    have CS := (made5_s w4 ⟨xl, xp, xu, ⟨xk, xa, xr, xq, xx, xf⟩⟩ ⟨fs, 0, fl', fa, ft⟩).kp K6
    have W6 := (HE.out.2.1.fr F4 HS.out).kp k6
    have sz := F4.size
    have sz3 := HE.out.2.1.sz
    obtain ⟨w7, hw7⟩ : ∃ w7, w7 = (putR w6 (w4.heap.size + 1) 0 (encF ⟨1, 2, (xl : Int), u, false⟩)).setCell ⟨w4.heap.size + 1, 4, none⟩ (.bool st) := ⟨_, rfl⟩
    have F7 : Fr (· = w4.heap.size + 1) w6 w7 := by rw [hw7]; exact (putR_fr _ _ _ _).set _ _ rfl
    have C7 : RX w7 (w4.heap.size + 1) 35 (encF ⟨1, 2, (xl : Int), u, st⟩) := by rw [hw7]; exact heap_setCell_same _ _ 4 _ _ _ (CG.put (U := encF ⟨1, 2, (xl : Int), u, false⟩) rfl)
    have W7 : WB w two root true w7 := ⟨Nat.le_trans W6.sz F7.size, W6.cv.fr F7 (by omega), W6.co.fr F7 (by omega), W6.cf.fr F7 (by omega)⟩
    have HF : Hid _ := W7.fin HP.out (HP.out _ _ ((M4.kp k6).le (by omega)) (F7.mono (fun i _ e => by omega))) ((((HE.out.1.fr S).trans F4).trans (k6.fr S)).trans2 F7 (fun i hi e => by omega)) zO ⟨1, 2, (xl : Int), u, st⟩
    have HW : Hid (WB w two root true w7 ∧ RX w7 (w4.heap.size + 1) 35 (encF ⟨1, 2, (xl : Int), u, st⟩)) := ⟨W7, C7⟩
    have n1 : ¬ w4.heap.size + 1 = w.heap.size + 1 := by omega
    have n2 : ¬ w.heap.size + 1 = w4.heap.size + 1 := by omega
    have n3 : ¬ w4.heap.size + 1 = w.heap.size + 2 := by omega
    have n4 : ¬ w.heap.size + 2 = w4.heap.size + 1 := by omega
    have h0 := CG.cell (j := 0) rfl; have h1 := CG.cell (j := 1) rfl; have h2 := CG.cell (j := 2) rfl; have h3 := CG.cell (j := 3) rfl; have h4 := CG.cell (j := 4) rfl; have fh := CG.fz
    have s0 := CS.cell (j := 0) rfl
    clear W6 W7 CG CS M4 F4 kf HE HP hw3 d1 d2 d3 d4 k6 K6 sz sz3 F7 C7 kr
    go_wp2_with fail
    rw [← putR_five]
    change Code.wp _ _ _ _ ((putR w6 (w4.heap.size + 1) 0 (encF ⟨1, 2, (xl : Int), u, false⟩)).setCell ⟨w4.heap.size + 1, 4, none⟩ (.bool st))
    rw [← hw7]
    clear hw7 h0 h1 h2 h3 h4 fh s0
    have CO := HW.out.1.co
    have CF := HW.out.1.cf
    have CG := HW.out.2
    have o0 := CO.cell (j := 0) rfl; have o1 := CO.cell (j := 1) rfl; have o2 := CO.cell (j := 2) rfl; have o3 := CO.cell (j := 3) rfl; have o4 := CO.cell (j := 4) rfl; have o5 := CO.cell (j := 5) rfl; have o6 := CO.cell (j := 6) rfl; have o7 := CO.cell (j := 7) rfl; have fo := CO.fz
    have g0 := CF.cell (j := 0) rfl; have g1 := CF.cell (j := 1) rfl; have g2 := CF.cell (j := 2) rfl; have g3 := CF.cell (j := 3) rfl; have g4 := CF.cell (j := 4) rfl; have fg := CF.fz
    have h0 := CG.cell (j := 0) rfl; have h1 := CG.cell (j := 1) rfl; have h2 := CG.cell (j := 2) rfl; have h3 := CG.cell (j := 3) rfl; have h4 := CG.cell (j := 4) rfl; have fh := CG.fz
    clear CO CF CG HW
    go_region
    all_goals
      go_wp2
      rw [← putR_five, ← putR_eight]
      change bodyPost _ _ _ _ _ (put2 _ _ _ zO ⟨1, 2, (xl : Int), u, st⟩).drew
      exact bodyPost_ret (res_of rfl rfl rfl (HF.out.1.kp (Kp.refl _).drew) (HF.out.2.1.kp (Kp.refl _).drew)) rfl ⟨rfl, HF.out.2.2.1.kp (Kp.refl _).drew, HF.out.2.2.2.drew⟩
  · obtain ⟨q, hq0⟩ : ∃ q, outN u xl xk xa = q := ⟨_, rfl⟩
    obtain ⟨m, hm⟩ : ∃ m, slN (rdB N B) two q = m := ⟨_, rfl⟩
    obtain ⟨OO, hO⟩ : ∃ OO, seO (rdB N B) two q acc = OO := ⟨_, rfl⟩
    obtain ⟨FF, hF⟩ : ∃ FF, seF (rdB N B) two q acc = FF := ⟨_, rfl⟩
    have hm4 : (m : Int) ≤ 4 := by have := slN_le (rdB N B) two q; omega
    have hc3 : n = nn + m ∧ ((FF.k ≠ 0 ∧ ov = OO ∧ fv = FF) ∨ (FF.k = 0 ∧ ov = ⟨OO.f, OO.i, xr, xq, xx, OO.r, OO.q, OO.x⟩ ∧ fv = FF)) := by
      rcases hc with ⟨_, _, c3, e3, e4, e5⟩ | ⟨_, _, c3, e3, e4, e5⟩
      · change seK (rdB N B) two (outN u xl xk xa) acc ≠ 0 at c3
        change fv = seF (rdB N B) two (outN u xl xk xa) acc at e4
        change n = nn + slN (rdB N B) two (outN u xl xk xa) at e5
        rw [hq0] at c3 e4 e5
        rw [hm] at e5
        have h1 : seO (rdB N B) two q acc = zO := if_neg c3
        have h2 : seF (rdB N B) two q acc = ⟨2, seK (rdB N B) two q acc, -1, q, acc == 2⟩ := if_neg c3
        refine ⟨e5, .inl ⟨?_, by rw [e3, ← hO, h1], by rw [e4, hF]⟩⟩
        rw [← hF, h2]
        exact c3
      · change seK (rdB N B) two (outN u xl xk xa) acc = 0 at c3
        change ov = ⟨(seO (rdB N B) two (outN u xl xk xa) acc).f, (seO (rdB N B) two (outN u xl xk xa) acc).i, xr, xq, xx, (seO (rdB N B) two (outN u xl xk xa) acc).r, (seO (rdB N B) two (outN u xl xk xa) acc).q, (seO (rdB N B) two (outN u xl xk xa) acc).x⟩ at e3
        change n = nn + slN (rdB N B) two (outN u xl xk xa) at e5
        rw [hq0] at c3 e3 e5
        rw [hm] at e5
        have h2 : seF (rdB N B) two q acc = zF := if_pos c3
        refine ⟨e5, .inr ⟨by rw [← hF, h2]; rfl, by rw [e3, hO], by rw [e4, ← hF, h2]⟩⟩
    obtain ⟨c1, c2⟩ : fk = 0 ∧ alP xr xq xx acc = true := by
      rcases hc with ⟨c1, c2, _⟩ | ⟨c1, c2, _⟩ <;> exact ⟨c1, c2⟩
    clear hc
    obtain ⟨rfl, hc3⟩ := hc3
    obtain ⟨Zf, Zi, za, zb, zc, zr, zq, zx⟩ := OO
    obtain ⟨gs, gk, gl, ga, gt⟩ := FF
    have HK : Hid (seO (rdB N B) two q acc = ⟨Zf, Zi, za, zb, zc, zr, zq, zx⟩ ∧ seF (rdB N B) two q acc = ⟨gs, gk, gl, ga, gt⟩ ∧ slN (rdB N B) two q = m) := ⟨hO, hF, hm⟩
    have HC : Hid ((gk ≠ 0 ∧ ov = ⟨Zf, Zi, za, zb, zc, zr, zq, zx⟩ ∧ fv = ⟨gs, gk, gl, ga, gt⟩) ∨ (gk = 0 ∧ ov = ⟨Zf, Zi, xr, xq, xx, zr, zq, zx⟩ ∧ fv = ⟨gs, gk, gl, ga, gt⟩)) := hc3
    clear hO hF hm hc3
    subst c1
    have kr := fun w => refuses_any xr xq xx acc w
    rw [c2] at kr
    have ko := fun w => out_any u xa xl xp xu xk xr xq xx xf w
    have hq := out_lt u xl xk xa
    rw [hq0] at ko hq
    have HQ : Hid (q < 18446744073709551616 ∧ ∀ v, Calls Try.prog 31 #[.int .u64 (u : Int), stV ⟨xl, xp, xu, ⟨xk, xa, xr, xq, xx, xf⟩⟩] v fun e w' => e = .returned (.int .u64 (q : Int)) ∧ Kp v w') := ⟨hq, ko⟩
    clear c2 hq ko
    go_enter Try.func6, Try.ntmps6
    go_wp2_with fail
    rw [← hw3]
    with_reducible refine kf.mono ?_
    rintro e w4 ⟨rfl, M4, F4⟩
    go_wp2_with fail
    with_reducible refine (kr _).mono ?_
    rintro e w6 ⟨rfl, K6⟩
    have K6 : Kp (made5 w4 ⟨xl, xp, xu, ⟨xk, xa, xr, xq, xx, xf⟩⟩ ⟨fs, 0, fl', fa, ft⟩) w6 := K6
    have k6 : Kp w4 w6 := (made5_kp _ _ _).trans K6
    have CG := (made5_f w4 ⟨xl, xp, xu, ⟨xk, xa, xr, xq, xx, xf⟩⟩ ⟨fs, 0, fl', fa, ft⟩).kp K6
    have CS := (made5_s w4 ⟨xl, xp, xu, ⟨xk, xa, xr, xq, xx, xf⟩⟩ ⟨fs, 0, fl', fa, ft⟩).kp K6
    have W := (HE.out.2.1.fr F4 HS.out).kp k6
    have sz := F4.size
    have sz3 := HE.out.2.1.sz
    have sz6 : w4.heap.size + 2 ≤ w6.heap.size := by have := CG.lt; omega
    have M6 := M4.kp k6
    have F6 := ((HE.out.1.fr S).trans F4).trans (k6.fr S)
    have HG : Hid (RX w6 (w4.heap.size + 1) 35 (encF ⟨fs, 0, fl', fa, ft⟩) ∧ RX w6 w4.heap.size 80 (encS ⟨xl, xp, xu, ⟨xk, xa, xr, xq, xx, xf⟩⟩) ∧ WB w two root true w6 ∧ (w.heap.size + 3 ≤ w4.heap.size ∧ w4.heap.size + 2 ≤ w6.heap.size) ∧ PMo w6 S p N (o + 20) B ∧ Fr S w w6 ∧ o < 1000000000000000000 ∧ two < 18446744073709551616) := ⟨CG, CS, W, ⟨by omega, sz6⟩, M6, F6, HE.out.2.2⟩
    have h1 := CG.cell (j := 1) rfl
    clear W CG CS M4 F4 kf HE hw3 d1 d2 d3 d4 k6 K6 sz sz3 sz6 kr M6 F6
    go_wp2_with fail
    clear h1
    obtain ⟨CG, CS, W, ⟨sz, sz6⟩, M6, F6, ho, ht⟩ := HG.out
    refine walk_last ?_ S (fun v => PMo v S p N (o + 24) B) (fun v v' H k => H.fr k (fun i hi c => c hi)) p w.heap.size w4.heap.size (w4.heap.size + 1) two u q m acc ⟨xl, xp, xu, ⟨xk, xa, xr, xq, xx, xf⟩⟩ ⟨Zf, Zi, za, zb, zc, zr, zq, zx⟩ ⟨gs, gk, gl, ga, gt⟩ ⟨fs, 0, fl', fa, ft⟩ ?_ ?_ ?_ ?_ ?_ ?_ ?_ (W.cv.cell (j := 0) rfl) ⟨W.cv.lt, (fun c => by have := HS.out _ c; omega), by omega⟩ CS ⟨(fun c => by have := HS.out _ c; omega), by omega⟩ CG (fun c => by have := HS.out _ c; omega) (fun i hi => by have := HS.out i hi; omega) HQ.out.2 (fun v kv => by
      have := second_any (M6.kp kv) two q acc ht HQ.out.1 (by omega)
      rw [HK.out.1, HK.out.2.1, HK.out.2.2] at this
      exact this) ?_
    · exact ⟨rfl, ⟨_, rfl, rfl, rfl, rfl⟩, ⟨_, rfl, rfl, rfl, rfl⟩, ⟨_, rfl, rfl, rfl, rfl⟩, ⟨_, rfl, rfl, rfl, rfl⟩, ⟨_, rfl, rfl, rfl, rfl⟩, ⟨_, rfl, rfl, rfl, rfl⟩, ⟨_, rfl, rfl, rfl, rfl⟩, ⟨_, rfl, rfl, rfl, rfl⟩, ⟨_, rfl, rfl, rfl, rfl⟩, ⟨_, rfl, rfl, rfl, rfl⟩, ⟨_, rfl, rfl, rfl, rfl⟩, ⟨_, rfl, rfl, rfl, rfl⟩, ⟨_, rfl, rfl, rfl, rfl⟩, ⟨_, rfl, rfl, rfl, rfl⟩, ⟨_, rfl, rfl, rfl, rfl⟩, ⟨_, rfl, rfl, rfl, rfl⟩, (fun t h => ready_on h (by kernel_rfl)), (fun t h => ready_on h (by kernel_rfl)), (fun t h => ready_on h (by kernel_rfl)), (fun t h => ready_on h (by kernel_rfl)), (fun t h => ready_on h (by kernel_rfl)), (fun t h => ready_on h (by kernel_rfl)), (fun t h => ready_on h (by kernel_rfl)), (fun t h => ready_on h (by kernel_rfl)), (fun t h => ready_on h (by kernel_rfl)), (fun t h => ready_on h (by kernel_rfl)), (fun t h => ready_on h (by kernel_rfl)), (fun t h => ready_on h (by kernel_rfl)), (fun t h => ready_on h (by kernel_rfl)), (fun t h => ready_on h (by kernel_rfl)), (fun t h => ready_on h (by kernel_rfl)), (fun t h => ready_on h (by kernel_rfl)), (fun t h => ready_on h (by kernel_rfl)), (fun t hs hr => ready_all2 (by kernel_rfl) hs hr)⟩
    · rfl
    · rfl
    · rfl
    · rfl
    · rfl
    · rfl
    · rfl

    intro x u' v ob hx0 hx1 hob RO RF PV0 FV0
    have PV : PMo v S p N (o + 24) B := PV0
    clear PV0
    have FV : Fr S w v := F6.trans2 FV0 (fun i hi c => by
      rcases c with c | c
      · exact c
      · omega)
    have nT : ∀ b, w.heap.size ≤ b → b ≠ w4.heap.size + 1 → ¬ (S b ∨ b = w4.heap.size + 1) := fun b h1 h2 c => c.elim (fun c => by have := HS.out b c; omega) h2
    have WV : WB w two root true v := ⟨Nat.le_trans W.sz FV0.size, W.cv.fr FV0 (nT _ (by omega) (by omega)), W.co.fr FV0 (nT _ (by omega) (by omega)), W.cf.fr FV0 (nT _ (by omega) (by omega))⟩
    have CS := CS.fr FV0 (nT _ (by omega) (by omega))
    have n1 : ¬ ob = w.heap.size + 1 := by omega
    have n2 : ¬ w.heap.size + 1 = ob := by omega
    have n3 : ¬ ob = w.heap.size + 2 := by omega
    have n4 : ¬ w.heap.size + 2 = ob := by omega
    have n5 : ¬ w4.heap.size + 1 = w.heap.size + 1 := by omega
    have n6 : ¬ w.heap.size + 1 = w4.heap.size + 1 := by omega
    have n7 : ¬ w4.heap.size + 1 = w.heap.size + 2 := by omega
    have n8 : ¬ w.heap.size + 2 = w4.heap.size + 1 := by omega
    have n9 : ¬ ob = w4.heap.size + 1 := by omega
    have n10 : ob ≠ w.heap.size := by omega
    simp only [layA, lays, List.setIfInBounds_toArray, List.set_cons_succ, List.set_cons_zero, Nat.reduceAdd]
    rw [hx0, hx1]
    clear HQ HK hx0 hx1 CG W M6 F6 FV0 nT HG
    rcases HC.out with ⟨g1, g2, g3⟩ | ⟨g1, g2, g3⟩
    · have y3 : (gk == 0) = false := by rw [beq_eq_false_iff_ne]; exact g1
      have HV : Hid (ov = ⟨Zf, Zi, za, zb, zc, zr, zq, zx⟩ ∧ fv = ⟨gs, gk, gl, ga, gt⟩) := ⟨g2, g3⟩
      clear g1 g2 g3 HC CS sz sz6 hob ho ht HS
      have CO := WV.co
      have CF := WV.cf
      have o0 := CO.cell (j := 0) rfl; have o1 := CO.cell (j := 1) rfl; have o2 := CO.cell (j := 2) rfl; have o3 := CO.cell (j := 3) rfl; have o4 := CO.cell (j := 4) rfl; have o5 := CO.cell (j := 5) rfl; have o6 := CO.cell (j := 6) rfl; have o7 := CO.cell (j := 7) rfl; have fo := CO.fz
      have g0 := CF.cell (j := 0) rfl; have g1 := CF.cell (j := 1) rfl; have g2 := CF.cell (j := 2) rfl; have g3 := CF.cell (j := 3) rfl; have g4 := CF.cell (j := 4) rfl; have fg := CF.fz
      have r0 := RO.cell (j := 0) rfl; have r1 := RO.cell (j := 1) rfl; have r2 := RO.cell (j := 2) rfl; have r3 := RO.cell (j := 3) rfl; have r4 := RO.cell (j := 4) rfl; have r5 := RO.cell (j := 5) rfl; have r6 := RO.cell (j := 6) rfl; have r7 := RO.cell (j := 7) rfl; have fr := RO.fz
      have h0 := RF.cell (j := 0) rfl; have h1 := RF.cell (j := 1) rfl; have h2 := RF.cell (j := 2) rfl; have h3 := RF.cell (j := 3) rfl; have h4 := RF.cell (j := 4) rfl; have fh := RF.fz
      have HF : Hid _ := WV.fin HP.out PV FV ⟨Zf, Zi, za, zb, zc, zr, zq, zx⟩ ⟨gs, gk, gl, ga, gt⟩
      clear CO CF RO RF WV HP PV FV
      skip
      go_wp2_with fail
      skip
      go_region
      all_goals
        go_wp2
        rw [← putR_five, ← putR_eight]
        change bodyPost _ _ _ _ _ (put2 _ _ _ ⟨Zf, Zi, za, zb, zc, zr, zq, zx⟩ ⟨gs, gk, gl, ga, gt⟩).drew
        exact bodyPost_ret (res_of rfl rfl rfl (HF.out.1.kp (Kp.refl _).drew) (HF.out.2.1.kp (Kp.refl _).drew)) rfl ⟨by rw [HV.out.1, HV.out.2]; rfl, HF.out.2.2.1.kp (Kp.refl _).drew, HF.out.2.2.2.drew⟩
    · have HV : Hid (ov = ⟨Zf, Zi, xr, xq, xx, zr, zq, zx⟩ ∧ fv = ⟨gs, gk, gl, ga, gt⟩) := ⟨g2, g3⟩
      subst g1
      have h1 := RF.cell (j := 1) rfl
      have r2 := RO.cell (j := 2) rfl
      have r3 := RO.cell (j := 3) rfl
      have r4 := RO.cell (j := 4) rfl
      have fr := RO.fz
      have s5 := CS.cell (j := 5) rfl
      have s6 := CS.cell (j := 6) rfl
      have s7 := CS.cell (j := 7) rfl
      have m1 : ¬ ob = w4.heap.size := by omega
      have m2 : ¬ w4.heap.size = ob := by omega
      obtain ⟨v2, hv2⟩ : ∃ v2, v2 = ((v.setCell ⟨ob, 2, none⟩ (.bool xr)).setCell ⟨ob, 3, none⟩ (.bool xq)).setCell ⟨ob, 4, none⟩ (.bool xx) := ⟨_, rfl⟩
      have F2 : Fr (· = ob) v v2 := by rw [hv2]; exact (((Fr.refl (· = ob) v).set _ _ rfl).set _ _ rfl).set _ _ rfl
      have RO2 : RX v2 ob 33 (encO ⟨Zf, Zi, xr, xq, xx, zr, zq, zx⟩) := by
        rw [hv2]
        exact ((RO.set 2 (.bool xr)).set 3 (.bool xq)).set 4 (.bool xx)
      have RF2 := RF.fr F2 (fun e => n9 e.symm)
      have WV2 : WB w two root true v2 := ⟨Nat.le_trans WV.sz F2.size, WV.cv.fr F2 (fun e => n10 e.symm), WV.co.fr F2 n2, WV.cf.fr F2 n4⟩
      have PV2 : PMo v2 S p N (o + 24) B := HP.out _ _ PV (F2.mono (fun i _ e => by omega))
      have FV2 : Fr S w v2 := FV.trans2 F2 (fun i hi e => by omega)
      have HZ : Hid (RX v2 ob 33 (encO ⟨Zf, Zi, xr, xq, xx, zr, zq, zx⟩) ∧ RX v2 (w4.heap.size + 1) 35 (encF ⟨gs, 0, gl, ga, gt⟩) ∧ WB w two root true v2 ∧ PMo v2 S p N (o + 24) B ∧ Fr S w v2) := ⟨RO2, RF2, WV2, PV2, FV2⟩
      clear g2 g3 HC CS sz sz6 hob ho ht HS RO RF WV PV FV F2 RO2 RF2 WV2 PV2 FV2
      go_wp2_with fail
      rw [← hv2]
      clear hv2 h1 r2 r3 r4 fr s5 s6 s7
      obtain ⟨RO, RF, WV, PV, FV⟩ := HZ.out
      clear HZ
      have CO := WV.co
      have CF := WV.cf
      have o0 := CO.cell (j := 0) rfl; have o1 := CO.cell (j := 1) rfl; have o2 := CO.cell (j := 2) rfl; have o3 := CO.cell (j := 3) rfl; have o4 := CO.cell (j := 4) rfl; have o5 := CO.cell (j := 5) rfl; have o6 := CO.cell (j := 6) rfl; have o7 := CO.cell (j := 7) rfl; have fo := CO.fz
      have g0 := CF.cell (j := 0) rfl; have g1 := CF.cell (j := 1) rfl; have g2 := CF.cell (j := 2) rfl; have g3 := CF.cell (j := 3) rfl; have g4 := CF.cell (j := 4) rfl; have fg := CF.fz
      have r0 := RO.cell (j := 0) rfl; have r1 := RO.cell (j := 1) rfl; have r2 := RO.cell (j := 2) rfl; have r3 := RO.cell (j := 3) rfl; have r4 := RO.cell (j := 4) rfl; have r5 := RO.cell (j := 5) rfl; have r6 := RO.cell (j := 6) rfl; have r7 := RO.cell (j := 7) rfl; have fr := RO.fz
      have h0 := RF.cell (j := 0) rfl; have h1 := RF.cell (j := 1) rfl; have h2 := RF.cell (j := 2) rfl; have h3 := RF.cell (j := 3) rfl; have h4 := RF.cell (j := 4) rfl; have fh := RF.fz
      have HF : Hid _ := WV.fin HP.out PV FV ⟨Zf, Zi, xr, xq, xx, zr, zq, zx⟩ ⟨gs, 0, gl, ga, gt⟩
      clear CO CF RO RF WV HP PV FV
      skip
      go_wp2_with fail
      skip
      go_region
      all_goals
        go_wp2
        rw [← putR_five, ← putR_eight]
        change bodyPost _ _ _ _ _ (put2 _ _ _ ⟨Zf, Zi, xr, xq, xx, zr, zq, zx⟩ ⟨gs, 0, gl, ga, gt⟩).drew
        exact bodyPost_ret (res_of rfl rfl rfl (HF.out.1.kp (Kp.refl _).drew) (HF.out.2.1.kp (Kp.refl _).drew)) rfl ⟨by rw [HV.out.1, HV.out.2]; rfl, HF.out.2.2.1.kp (Kp.refl _).drew, HF.out.2.2.2.drew⟩

end Go.Proofs.Ytclcickhgoiooaa
