/- VmidPlays. -/
import Derived.Test.YtclheedcdogkbaaI6
import Derived.Test.YtclheedcdogkbaaS2
import Derived.Deep.DeepCutAuto
import Derived.Deep.CutBlock
import Derived.Deep.RegionHeld3
namespace Go.Proofs.Ytclheedcdogkbaa
open Go.RowKit
set_option maxRecDepth 10000

/-- The program's IDs and the document's beside one another, behind W. -/
structure PVB (W w : World) (p b n : Nat) (s s2 : IV) : Prop where
  k : Kp W w
  p0 : W.heap.size ≤ p
  b0 : W.heap.size ≤ b
  ne : p ≠ b
  v : VI w p n s
  d : ∃ a, VD w b a n s2 ∧ W.heap.size ≤ a ∧ p ≠ a
/-- A step's box besides. -/
structure PVX (W w : World) (p b n : Nat) (s s2 : IV) (bo : Nat) (kd x : Int) : Prop where
  k : Kp W w
  p0 : W.heap.size ≤ p
  b0 : W.heap.size ≤ b
  ne : p ≠ b
  v : VI w p n s
  d : ∃ a, VD w b a n s2 ∧ W.heap.size ≤ a ∧ p ≠ a ∧ bo ≠ a
  x : RX w bo 31 [.int .i64 kd, .int .i64 x]
  xp : bo ≠ p
  xb : bo ≠ b
section
variable {W w w' : World} {p b n : Nat} {s s2 : IV} {bo : Nat} {kd x : Int}
theorem PVB.box (h : PVB W w p b n s s2) (kd x : Int) : PVX W (w.alloc (.cells #[.int .i64 kd, .int .i64 x] 31)) p b n s s2 w.heap.size kd x := by
  obtain ⟨a, d, a0, a1⟩ := h.d
  have k : Kp w (w.alloc (.cells #[.int .i64 kd, .int .i64 x] 31)) := (Kp.refl w).alloc _
  exact ⟨h.k.trans k, h.p0, h.b0, h.ne, h.v.kp k, ⟨a, d.kp k, a0, a1, by have := d.row.lt; omega⟩, RX.made w _ _, by have := h.v.lt; omega, by have := d.bl; omega⟩
theorem PVX.pvb (h : PVX W w p b n s s2 bo kd x) : PVB W w p b n s s2 := by
  obtain ⟨a, d, a0, a1, _⟩ := h.d
  exact ⟨h.k, h.p0, h.b0, h.ne, h.v, ⟨a, d, a0, a1⟩⟩
theorem PVX.kp (h : PVX W w p b n s s2 bo kd x) (k : Kp w w') : PVX W w' p b n s s2 bo kd x := by
  obtain ⟨a, d, a0⟩ := h.d
  exact ⟨h.k.trans k, h.p0, h.b0, h.ne, h.v.kp k, ⟨a, d.kp k, a0⟩, h.x.kp k, h.xp, h.xb⟩
theorem PVX.c0 (h : PVX W w p b n s s2 bo kd x) : w.cell? ⟨bo, 0, none⟩ = some (.int .i64 kd) := h.x.cell rfl
theorem PVX.c1 (h : PVX W w p b n s s2 bo kd x) : w.cell? ⟨bo, 1, none⟩ = some (.int .i64 x) := h.x.cell rfl
theorem PVX.t (h : PVX W w p b n s s2 bo kd x) : w.cell? ⟨b, 2, none⟩ = some (.int .i64 (s2.t : Int)) := by obtain ⟨a, d, _⟩ := h.d; exact d.c2
/-- The program's IDs change. -/
theorem PVX.onV (h : PVX W w p b n s s2 bo kd x) {s' : IV} (v : VI w' p n s') (f : Fr (· = p) w w') : PVX W w' p b n s' s2 bo kd x := by
  obtain ⟨a, d, a0, a1, a2⟩ := h.d
  exact ⟨f.kp h.k (fun i hi => by have e : i = p := hi; have := h.p0; omega), h.p0, h.b0, h.ne, v, ⟨a, d.fr f (fun e => h.ne e.symm) (fun e => a1 e.symm), a0, a1, a2⟩, h.x.fr f h.xp, h.xp, h.xb⟩
theorem PVX.vget (h : PVX W w p b n s s2 bo kd x) (ok : okV n s) (ht : s.t < 1000000) (y : Int) :
    Calls Try.prog 8 #[.pointer (some ⟨p, 0, none⟩), .int .i64 y] w fun e w' => e = .returned (.tuple #[.int .i64 (getI n s y : Int), .bool (getB n s y), .int .i64 (getE y)]) ∧ PVX W w' p b n (getS n s y) s2 bo kd x :=
  (vget_any h.v ok y ht).mono fun _ _ ⟨h1, h2, h3⟩ => ⟨h1, h.onV h2 h3⟩
theorem PVX.vdrop (h : PVX W w p b n s s2 bo kd x) (ok : okV n s) (y : Int) :
    Calls Try.prog 10 #[.pointer (some ⟨p, 0, none⟩), .int .i64 y] w fun e w' => e = .returned (.bool (hs s y != 0)) ∧ PVX W w' p b n (drpS s y) s2 bo kd x :=
  (vdrop_any h.v ok y).mono fun _ _ ⟨h1, h2, h3⟩ => ⟨h1, h.onV h2 h3⟩
theorem PVX.dget (h : PVX W w p b n s s2 bo kd x) (ok : okV n s2) (ht : s2.t < 1000000) (y : Int) :
    Calls Try.prog 9 #[.pointer (some ⟨b, 0, none⟩), .int .i64 y] w fun e w' => e = .returned (.tuple #[.int .i64 (getI n s2 y : Int), .bool (getB n s2 y), .int .i64 (getE y)]) ∧ PVX W w' p b n s (getS n s2 y) bo kd x := by
  obtain ⟨a, d, a0, a1, a2⟩ := h.d
  refine (dget16 d ok y ht).mono fun _ w' ⟨h1, ⟨a', h2, h3⟩, h4⟩ => ⟨h1, ?_⟩
  have hl := h.v.lt
  have hx := h.x.lt
  refine ⟨h4.kp h.k (fun i hi => by rcases hi with e | e; have := h.b0; omega; omega), h.p0, h.b0, h.ne, h.v.fr h4 (fun c => c.elim h.ne a1), ⟨a', h2, ?_, ?_, ?_⟩, h.x.fr h4 (fun c => c.elim h.xb a2), h.xp, h.xb⟩
  · rcases h3 with e | e
    · omega
    · have := h.k.size; omega
  · rcases h3 with e | e
    · rw [e]; exact a1
    · omega
  · rcases h3 with e | e
    · rw [e]; exact a2
    · omega
theorem PVX.ddrop (h : PVX W w p b n s s2 bo kd x) (ok : okV n s2) (y : Int) :
    Calls Try.prog 11 #[.pointer (some ⟨b, 0, none⟩), .int .i64 y] w fun e w' => e = .returned (.bool (hs s2 y != 0)) ∧ PVX W w' p b n s (drpS s2 y) bo kd x := by
  obtain ⟨a, d, a0, a1, a2⟩ := h.d
  exact (ddrop16 d ok y).mono fun _ w' ⟨h1, h2, h4⟩ => ⟨h1, h4.kp h.k (fun i hi => by have e : i = a := hi; omega), h.p0, h.b0, h.ne, h.v.fr h4 a1, ⟨a, h2, a0, a1, a2⟩, h.x.fr h4 a2, h.xp, h.xb⟩
end

set_option maxHeartbeats 4000000 in
theorem plays16_no (a0 : Int) (na : Option Addr) (mc cap : Nat) (w : World) (hp : ¬ (1 ≤ a0 ∧ a0 ≤ 255)) (hm : mc ≤ maxLen) :
    Calls Try.prog 3 #[.int .i64 a0, .slice na mc cap] w fun e w' => e = .returned (.bool true) ∧ Kp w w' := by
  have c1 := fun w => vnew_no a0 w hp
  have c2 := fun w => dnew16_no a0 w hp
  have cT := vtold_any
  unfold maxLen at hm
  clear hp
  go_enter Try.func3, Try.ntmps3
  go_wp2_with fail
  with_reducible refine (c1 _).mono ?_
  rintro e w ⟨rfl, rfl⟩
  go_wp2_with fail
  with_reducible refine (c2 _).mono ?_
  rintro e w ⟨rfl, rfl⟩
  clear c1 c2
  go_upto_block 0 with fail
  go_cut [] (fun wx => Hid (wx = w))
  case first =>
    go_wp2_with fail
    go_loopg [9] 1 (fun gk v9 wr => v9 = .int .i64 0 ∧ Hid (wr = w))
    case atStart => exact ⟨rfl, rfl⟩
    case round =>
      obtain ⟨rfl, HW⟩ := hrel
      by_cases h0 : 0 < mc
      · have y1 : (0 : Int) < mc := by omega
        go_wp2_with fail
        go_meet
        case rel => exact HW
      · have y1 : ¬ (0 : Int) < mc := by omega
        go_wp2_with fail
        go_meet
        case rel => exact HW
  case rest =>
    have hw := hcut.out
    subst hw
    go_wp2_with fail
    with_reducible refine (cT _).mono ?_
    rintro e w1 ⟨rfl, K1⟩
    have HK : Hid (Kp wc w1) := K1
    clear K1 cT
    go_wp2
    go_ret
    exact ⟨rfl, HK.out⟩

set_option maxHeartbeats 16000000 in
set_option maxRecDepth 100000 in
theorem plays16_ok (n : Nat) (na : Option Addr) (mc cap : Nat) (V : Nat → Int × Int) (w : World) (hO : Steps w na mc V) (n1 : 1 ≤ n) (n2 : n ≤ 255) :
    Calls Try.prog 3 #[.int .i64 (n : Int), .slice na mc cap] w fun e w' => e = .returned (.bool true) ∧ Kp w w' := by
  have c1 := vnew_ok n w n1 n2
  have c2 := fun w => dnew16_ok n w n1 n2
  have cT := vtold_any
  have HO : Hid (Steps w na mc V ∧ 1 ≤ n ∧ n ≤ 255) := ⟨hO, n1, n2⟩
  clear hO n1 n2
  obtain ⟨p, hp⟩ : ∃ p, w.heap.size = p := ⟨_, rfl⟩
  have HP : Hid (w.heap.size = p) := hp
  rw [hp] at c1
  clear hp
  go_enter Try.func3, Try.ntmps3
  go_wp2_with fail
  with_reducible refine c1.mono ?_
  rintro e w1 ⟨rfl, v1, k1⟩
  have c3 := c2 w1
  obtain ⟨b, hb⟩ : ∃ b, w1.heap.size + 1 = b := ⟨_, rfl⟩
  rw [hb] at c3
  have H1 : Hid (VI w1 p n newS ∧ Kp w w1 ∧ w1.heap.size + 1 = b) := ⟨v1, k1, hb⟩
  clear c1 c2 v1 k1 hb
  go_wp2_with fail
  with_reducible refine c3.mono ?_
  rintro e w2 ⟨rfl, d2, k2⟩
  have I0 : Hid (PVB w w2 p b n newS newS) := by
    obtain ⟨v1, k1, hb⟩ := H1.out
    have hl := v1.lt
    have hs := k1.size
    have hp := HP.out
    exact ⟨k1.trans k2, by omega, by omega, by omega, v1.kp k2, ⟨_, d2, by omega, by omega⟩⟩
  have O0 : Hid (okV n newS) := newS_ok HO.out.2.1 HO.out.2.2
  clear c3 d2 k2 H1
  go_upto_block 0 with fail
  go_cut [] (fun wx => Hid (Kp w wx))
  case first =>
    go_wp2_with fail
    go_loopg [9] 201 (fun gk v9 wr => ∃ (i : Nat) (s : IV), v9 = .int .i64 (i : Int) ∧ i ≤ 200 ∧ 201 - i ≤ gk ∧ Hid (PVB w wr p b n s s ∧ okV n s ∧ s.t ≤ i))
    case atStart => exact ⟨0, newS, rfl, by omega, by omega, I0.out, O0.out, Nat.le_refl 0⟩
    case round =>
      clear I0 O0
      obtain ⟨i, s, rfl, hi, hgk, HI⟩ := hrel
      by_cases hlt : i < mc ∧ i < 200
      · have y1 : (i : Int) < mc := by omega
        have y2 : (i : Int) < 200 := by omega
        obtain ⟨⟨cb, co, rfl, d1, d2, d3⟩, _, _⟩ := HO.out.1 i hlt.1
        have o0 := (HI.out.1.k.cell (p := ⟨cb, co + i * 2, none⟩) d1).trans d2
        have o1 := (HI.out.1.k.cell (p := ⟨cb, co + i * 2 + 1, none⟩) d1).trans d3
        generalize (V i).1 = kd at *
        generalize (V i).2 = x at *
        clear d1 d2 d3
        go_upto_region 9 with fail
        have X3 := HI.out.1.box kd x
        generalize wr.alloc (.cells #[.int .i64 kd, .int .i64 x] 31) = w3 at *
        have hbo : Hid (wr.heap.size = wr.heap.size) := rfl
        generalize wr.heap.size = bo at *
        clear hbo o0 o1
        obtain ⟨q, q1, q2⟩ := and_lim kd 3 (by omega)
        rw [show ((3 : Nat) : Int) = 3 from rfl] at q1
        obtain ⟨r, r1, r2⟩ := and_lim (i : Int) 1 (by omega)
        rw [show ((1 : Nat) : Int) = 1 from rfl] at r1
        obtain ⟨y, hy⟩ : ∃ y, IntKind.i64.wrap (x + (r : Int)) = y := ⟨_, rfl⟩
        have e0 := X3.c0
        have e1 := X3.c1
        have ok := HI.out.2.1
        have ht : s.t < 1000000 := by have := HI.out.2.2; omega
        by_cases h3 : q < 3
        · have y3 : (q : Int) < 3 := by omega
          have cG := X3.vget ok ht x
          have HS : Hid (okV n (getS n s x) ∧ (getS n s x).t ≤ i + 1) := ⟨ok.get x, by rw [getS_t]; have := HI.out.2.2; split <;> omega⟩
          have cR : Aside (∀ w4 s', PVX w w4 p b n s' s bo kd x → Calls Try.prog 9 #[.pointer (some ⟨b, 0, none⟩), .int .i64 x] w4 fun e w' => e = .returned (.tuple #[.int .i64 (getI n s x : Int), .bool (getB n s x), .int .i64 (getE x)]) ∧ PVX w w' p b n s' (getS n s x) bo kd x) := fun w4 s' h => h.dget ok ht x
          generalize getS n s x = S at *
          generalize getI n s x = gi at *
          generalize getB n s x = gb at *
          generalize getE x = ge at *
          clear HI ok ht X3
          go_wp2_with fail
          with_reducible refine cG.mono ?_
          rintro e w4 ⟨rfl, X4⟩
          have cQ := cR.out _ _ X4
          have e1 := X4.c1
          clear X4 cR cG
          go_wp2_with fail
          with_reducible refine cQ.mono ?_
          rintro e W4 ⟨rfl, X4⟩
          clear cQ
          have HN : Hid (∀ m, PVB w (W4.drewN m) p b n S S ∧ okV n S ∧ S.t ≤ i + 1) := fun m => ⟨(X4.kp ((Kp.refl W4).drewN m)).pvb, HS.out⟩
          have e0 := X4.c0
          have e1 := X4.c1
          have e2 := X4.t
          have cH := vhas_any X4.v HS.out.1 y
          have cD : Calls Try.prog 13 #[.pointer (some ⟨b, 0, none⟩), .int .i64 y] W4 fun e w' => e = .returned (.tuple #[.int .i64 (hs S y : Int), .bool (hs S y != 0)]) ∧ w' = W4 := by
            obtain ⟨a, d, _⟩ := X4.d
            exact dhas16 d HS.out.1 y
          have cU := fun m => vturn_any (X4.v.kp ((Kp.refl W4).drewN m))
          clear X4 HS
          generalize hs S y = h at *
          obtain ⟨B, hB⟩ : ∃ B, (h != 0) = B := ⟨_, rfl⟩
          rw [hB] at cH cD
          clear hB
          go_wp2_with fail
          with_reducible refine cH.mono ?_
          rintro e W4 ⟨rfl, rfl⟩
          go_wp2_with fail
          with_reducible refine cD.mono ?_
          rintro e W4 ⟨rfl, rfl⟩
          clear cH cD
          go_wp2_with fail
          go_quiet (first | (go_at_call 14; exact Calls.quiet_of_same (cU _)))
          have HN2 := hid_of (HN.out nq)
          clear HN cU e0 e1 e2
          generalize W4.drewN nq = W5 at *
          go_wp2_with fail
          go_roundg (201 - (i + 1))
          case measure => omega
          case rel => exact ⟨i + 1, S, by go_num, by omega, by omega, HN2⟩

        · have y3 : ¬ (q : Int) < 3 := by omega
          have y4 : decide ((q : Int) < 3) = false := decide_eq_false y3
          have HS : Hid (okV n (drpS s x) ∧ (drpS s x).t ≤ i + 1) := ⟨ok.drop x, by have := HI.out.2.2; unfold drpS; split; omega; show s.t ≤ i + 1; omega⟩
          have cG := (X3.kp (Kp.refl w3).drew).vdrop ok x
          have cR : Aside (∀ w4 s', PVX w w4 p b n s' s bo kd x → Calls Try.prog 11 #[.pointer (some ⟨b, 0, none⟩), .int .i64 x] w4 fun e w' => e = .returned (.bool (hs s x != 0)) ∧ PVX w w' p b n s' (drpS s x) bo kd x) := fun w4 s' h => h.ddrop ok x
          obtain ⟨D, hD⟩ : ∃ D, (hs s x != 0) = D := ⟨_, rfl⟩
          simp only [hD] at cG cR
          generalize drpS s x = S at *
          have HX : Hid (∀ w4 s1 s2, PVX w w4 p b n s1 s2 bo kd x → w4.cell? ⟨bo, 1, none⟩ = some (.int .i64 x)) := fun w4 s1 s2 h => h.c1
          clear HI ok ht X3 hD y3
          go_wp2_with fail
          go_region_held3 (fun w' => w'.cell? ⟨bo, 1, none⟩ = some (.int .i64 x))
            (first | go_keep | exact HX.out _ _ _ X4 | exact HX.out _ _ _ Y4)
            (first | (go_at_call 10; with_reducible refine cG.mono ?_; rintro e w4 ⟨rfl, Y4⟩) | (go_at_call 11; with_reducible refine (cR.out _ _ Y4).mono ?_; rintro e W4 ⟨rfl, X4⟩))
          clear e0 e1 Y4 cG cR HX
          have HN : Hid (∀ m, PVB w (W4.drewN m) p b n S S ∧ okV n S ∧ S.t ≤ i + 1) := fun m => ⟨(X4.kp ((Kp.refl W4).drewN m)).pvb, HS.out⟩
          have e0 := X4.c0
          have e1 := X4.c1
          have e2 := X4.t
          have cH := vhas_any X4.v HS.out.1 y
          have cD : Calls Try.prog 13 #[.pointer (some ⟨b, 0, none⟩), .int .i64 y] W4 fun e w' => e = .returned (.tuple #[.int .i64 (hs S y : Int), .bool (hs S y != 0)]) ∧ w' = W4 := by
            obtain ⟨a, d, _⟩ := X4.d
            exact dhas16 d HS.out.1 y
          have cU := fun m => vturn_any (X4.v.kp ((Kp.refl W4).drewN m))
          clear X4 HS
          generalize hs S y = h at *
          obtain ⟨B, hB⟩ : ∃ B, (h != 0) = B := ⟨_, rfl⟩
          rw [hB] at cH cD
          clear hB
          go_wp2_with fail
          with_reducible refine cH.mono ?_
          rintro e W4 ⟨rfl, rfl⟩
          go_wp2_with fail
          with_reducible refine cD.mono ?_
          rintro e W4 ⟨rfl, rfl⟩
          clear cH cD
          go_wp2_with fail
          go_quiet (first | (go_at_call 14; exact Calls.quiet_of_same (cU _)))
          have HN2 := hid_of (HN.out nq)
          clear HN cU e0 e1 e2
          generalize W4.drewN nq = W5 at *
          go_wp2_with fail
          go_roundg (201 - (i + 1))
          case measure => omega
          case rel => exact ⟨i + 1, S, by go_num, by omega, by omega, HN2⟩
      · have HK : Hid (Kp w wr) := HI.out.1.k
        clear HI
        by_cases hm : i < mc
        · have ei : i = 200 := by omega
          subst ei
          have y1 : (200 : Int) < mc := by omega
          rw [show ((200 : Nat) : Int) = 200 from rfl]
          go_wp2_with fail
          go_meet
          case rel => exact HK
        · have y1 : ¬ (i : Int) < mc := by omega
          go_wp2_with fail
          go_meet
          case rel => exact HK
  case rest =>
    have HK : Hid (Kp w wc) := hcut
    clear hcut I0 O0
    go_wp2_with fail
    with_reducible refine (cT _).mono ?_
    rintro e w1 ⟨rfl, K1⟩
    have HK2 : Hid (Kp w w1) := HK.out.trans K1
    clear K1 cT
    go_wp2
    go_ret
    exact ⟨rfl, HK2.out⟩

theorem plays16_any (a0 : Int) (na : Option Addr) (mc cap : Nat) (V : Nat → Int × Int) (w : World) (hO : Steps w na mc V) (hm : mc ≤ maxLen) :
    Calls Try.prog 3 #[.int .i64 a0, .slice na mc cap] w fun e w' => e = .returned (.bool true) ∧ Kp w w' := by
  by_cases h : 1 ≤ a0 ∧ a0 ≤ 255
  · obtain ⟨n, rfl⟩ : ∃ n : Nat, a0 = (n : Int) := ⟨a0.toNat, by omega⟩
    exact plays16_ok n na mc cap V w hO (by omega) (by omega)
  · exact plays16_no a0 na mc cap w h hm

end Go.Proofs.Ytclheedcdogkbaa
