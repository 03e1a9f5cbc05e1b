/- demesneref16: New, Get. -/
import Derived.Test.YtclheedcdogkbaaI4
namespace Go.Proofs.Ytclheedcdogkbaa
open Go.RowKit
set_option maxRecDepth 10000

theorem hid_of {p : Prop} (h : p) : Hid p := h
theorem VD.made (w : World) (n : Nat) : VD ((w.alloc (.cells (offW n) 3)).alloc (.cells #[.slice (some ⟨w.heap.size, 0, none⟩) n n, .int .i64 0, .int .i64 0] 42)) (w.heap.size + 1) w.heap.size n newS := by
  have e : (w.alloc (.cells (offW n) 3)).heap.size = w.heap.size + 1 := by simp
  have R := RX.made (w.alloc (.cells (offW n) 3)) 42 [.slice (some ⟨w.heap.size, 0, none⟩) n n, .int .i64 0, .int .i64 0]
  rw [e] at R
  exact ⟨R.cell rfl, R.cell rfl, R.cell rfl, R.fz, R.lt, (WI.made w n).kp ((Kp.refl _).alloc _), by omega⟩
set_option maxHeartbeats 1000000 in
theorem dnew16_ok (n : Nat) (w : World) (h1 : 1 ≤ n) (h2 : n ≤ 255) :
    Calls Try.prog 7 #[.int .i64 (n : Int)] w fun e w' => e = .returned (.tuple #[.pointer (some ⟨w.heap.size + 1, 0, none⟩), .int .i64 0]) ∧ VD w' (w.heap.size + 1) w.heap.size n newS ∧ Kp w w' := by
  have y1 : (1 : Int) ≤ n := by omega
  have y2 : (n : Int) ≤ 255 := by omega
  have hm := make_wi n w (by omega)
  have HV : Hid (VD ((w.alloc (.cells (offW n) 3)).alloc (.cells #[.slice (some ⟨w.heap.size, 0, none⟩) n n, .int .i64 0, .int .i64 0] 42)) (w.heap.size + 1) w.heap.size n newS) := VD.made w n
  generalize offW n = A at *
  go_enter Try.func7, Try.ntmps7
  go_wp2
  go_ret2
  exact ⟨rfl, HV.out, ((Kp.refl w).alloc _).alloc _⟩
set_option maxHeartbeats 1000000 in
theorem dnew16_no (n : Int) (w : World) (h : ¬ (1 ≤ n ∧ n ≤ 255)) :
    Calls Try.prog 7 #[.int .i64 n] w fun e w' => e = .returned (.tuple #[.pointer none, .int .i64 1]) ∧ w' = w := by
  by_cases c1 : n < 1
  · have d1 : decide (n < 1) = true := decide_eq_true c1
    clear h
    go_enter Try.func7, Try.ntmps7
    go_wp2
    go_ret2
    exact ⟨rfl, rfl⟩
  · have d1 : decide (n < 1) = false := decide_eq_false c1
    have d2 : decide (255 < n) = true := decide_eq_true (by omega)
    clear h
    go_enter Try.func7, Try.ntmps7
    go_wp2
    go_ret2
    exact ⟨rfl, rfl⟩

section
variable {w : World} {b a n : Nat} {s : IV}
theorem VD.other (h : VD w b a n s) (k : Nat) (v : Value) : Fr (· = b) w (w.setCell ⟨b, k, none⟩ v) ∧ WI (w.setCell ⟨b, k, none⟩ v) a n (fun i => s.f (i + 1)) := by
  have f : Fr (· = b) w (w.setCell ⟨b, k, none⟩ v) := (Fr.refl _ w).set _ _ rfl
  exact ⟨f, h.row.fr f (fun e => h.ne e.symm)⟩
theorem VD.setg (h : VD w b a n s) (g : Nat) : VD (w.setCell ⟨b, 1, none⟩ (.int .i64 (g : Int))) b a n ⟨s.t, g, s.f⟩ := by
  obtain ⟨f, r⟩ := h.other 1 (.int .i64 (g : Int))
  exact ⟨by rw [World.cell?_setCell_other _ _ _ _ (wi_ne (.inr (by decide)))]; exact h.c0, World.cell?_setCell_same _ _ _ h.c1, by rw [World.cell?_setCell_other _ _ _ _ (wi_ne (.inr (by decide)))]; exact h.c2, fun j => by rw [World.frozen?_setCell]; exact h.fz j, Nat.lt_of_lt_of_le h.bl f.size, r, h.ne⟩
theorem VD.sett (h : VD w b a n s) (t : Nat) : VD (w.setCell ⟨b, 2, none⟩ (.int .i64 (t : Int))) b a n ⟨t, s.g, s.f⟩ := by
  obtain ⟨f, r⟩ := h.other 2 (.int .i64 (t : Int))
  exact ⟨by rw [World.cell?_setCell_other _ _ _ _ (wi_ne (.inr (by decide)))]; exact h.c0, by rw [World.cell?_setCell_other _ _ _ _ (wi_ne (.inr (by decide)))]; exact h.c1, World.cell?_setCell_same _ _ _ h.c2, fun j => by rw [World.frozen?_setCell]; exact h.fz j, Nat.lt_of_lt_of_le h.bl f.size, r, h.ne⟩
theorem VD.seta (h : VD w b a n s) {a2 : Nat} (r : WI w a2 n (fun _ => 0)) (ne : b ≠ a2) : VD (w.setCell ⟨b, 0, none⟩ (.slice (some ⟨a2, 0, none⟩) n n)) b a2 n ⟨s.t, s.g, fun _ => 0⟩ := by
  obtain ⟨f, _⟩ := h.other 0 (.slice (some ⟨a2, 0, none⟩) n n)
  exact ⟨World.cell?_setCell_same _ _ _ h.c0, by rw [World.cell?_setCell_other _ _ _ _ (wi_ne (.inr (by decide)))]; exact h.c1, by rw [World.cell?_setCell_other _ _ _ _ (wi_ne (.inr (by decide)))]; exact h.c2, fun j => by rw [World.frozen?_setCell]; exact h.fz j, Nat.lt_of_lt_of_le h.bl f.size, r.fr f (fun e => ne e.symm), ne⟩
theorem VD.seto (h : VD w b a n s) (k v : Nat) : VD (w.setCell ⟨a, k, none⟩ (.int .i64 (v : Int))) b a n ⟨s.t, s.g, updI s.f (k + 1) v⟩ := by
  have f : Fr (· = a) w (w.setCell ⟨a, k, none⟩ (.int .i64 (v : Int))) := (Fr.refl _ w).set _ _ rfl
  have nb : ¬ b = a := h.ne
  refine ⟨(f.cell (a := ⟨b, 0, none⟩) h.bl nb).trans h.c0, (f.cell (a := ⟨b, 1, none⟩) h.bl nb).trans h.c1, (f.cell (a := ⟨b, 2, none⟩) h.bl nb).trans h.c2, fun j => (World.frozen?_of_block (a := ⟨b, j, none⟩) (f.block b h.bl nb)).trans (h.fz j), Nat.lt_of_lt_of_le h.bl f.size, (h.row.set k v).like fun i hi => ?_, h.ne⟩
  show updI s.f (k + 1) v (i + 1) = updI (fun i => s.f (i + 1)) k v i
  unfold updI
  by_cases e : i = k
  · rw [if_pos e, if_pos (by omega)]
  · rw [if_neg e, if_neg (by omega)]

set_option maxHeartbeats 4000000 in
set_option maxRecDepth 200000 in
theorem dget16 (h : VD w b a n s) (ok : okV n s) (x : Int) (ht : s.t < 1000000) :
    Calls Try.prog 9 #[.pointer (some ⟨b, 0, none⟩), .int .i64 x] w fun e w' => e = .returned (.tuple #[.int .i64 (getI n s x : Int), .bool (getB n s x), .int .i64 (getE x)]) ∧ (∃ a', VD w' b a' n (getS n s x) ∧ (a' = a ∨ w.heap.size ≤ a')) ∧ Fr (fun k => k = b ∨ k = a) w w' := by
  unfold getI getB getS getE
  cases hx : isG x
  · simp only [Bool.false_eq_true, if_false]
    have HE : Hid ((∃ a', VD w b a' n s ∧ (a' = a ∨ w.heap.size ≤ a')) ∧ Fr (fun k => k = b ∨ k = a) w w) := ⟨⟨a, h, .inl rfl⟩, Fr.refl _ _⟩
    have hg : ¬ (1 ≤ x ∧ x ≤ 255) := fun c => by rw [isG_iff.2 c] at hx; cases hx
    clear h ok hx
    by_cases c1 : x < 1
    · have d1 : decide (x < 1) = true := decide_eq_true c1
      clear hg
      go_enter Try.func9, Try.ntmps9
      go_wp2
      go_ret3
      exact ⟨rfl, HE.out⟩
    · have d1 : decide (x < 1) = false := decide_eq_false c1
      have d2 : decide (255 < x) = true := decide_eq_true (by omega)
      clear hg
      go_enter Try.func9, Try.ntmps9
      go_wp2
      go_ret3
      exact ⟨rfl, HE.out⟩
  · have hg := isG_iff.1 hx
    obtain ⟨m, rfl⟩ : ∃ m : Nat, x = (m : Int) := ⟨x.toNat, by omega⟩
    simp only [if_true]
    have k1 := dhas16 h ok (m : Int)
    have x1 : (1 : Int) ≤ (m : Int) := hg.1
    have x2 : (m : Int) ≤ 255 := hg.2
    by_cases c : hs s (m : Int) = 0
    · have c' : ¬ hs s (m : Int) ≠ 0 := fun e => e c
      simp only [if_neg c']
      rw [c] at k1
      obtain ⟨t, g, f⟩ := s
      have g1 : g ≤ n := ok.g
      have n2 := ok.n2
      have n1 := ok.n1
      dsimp only at ht
      by_cases d : g = n
      · subst d
        have hd : decide (g = g) = true := decide_eq_true rfl
        have hgv : givS (rolS ⟨t, g, f⟩) (m : Int) = ⟨t + 1, 1, updI (fun _ => 0) 1 m⟩ := rfl
        simp only [hgv, if_true]
        have HT : Hid (IntKind.i64.wrap ((t + 1 : Nat) : Int) = ((t + 1 : Nat) : Int) ∧ (t : Int) + 1 = ((t + 1 : Nat) : Int)) := ⟨by rw [IntKind.wrap_i64]; omega, by omega⟩
        have HH : Hid (VD w b a g ⟨t, g, f⟩) := h
        have c0 := h.c0
        have c1 := h.c1
        have c2 := h.c2
        dsimp only at c0 c1 c2
        have b1 : ((g : Int) == (g : Int)) = true := by simp
        generalize t + 1 = t1 at *
        clear h ok c c' hg hx hgv hd ht g1
        go_enter Try.func9, Try.ntmps9
        go_wp2_with fail
        with_reducible refine k1.mono ?_
        rintro e w ⟨rfl, rfl⟩
        go_wp2_with fail
        go_quiet (fail)
        have v1 := HH.out.kp ((Kp.refl w).drewN nq)
        have K1 : Hid (Kp w (w.drewN nq)) := (Kp.refl w).drewN nq
        generalize w.drewN nq = w1 at *
        have hm := make_wi g w1 (by omega)
        have v2 := v1.kp ((Kp.refl w1).alloc (.cells (offW g) 3))
        have r2 := WI.made w1 g
        have K2 : Kp w (w1.alloc (.cells (offW g) 3)) := K1.out.alloc _
        have l2 : w.heap.size ≤ w1.heap.size := K1.out.size
        have nb : b ≠ w1.heap.size := by have := v1.bl; omega
        have c0 := v1.c0
        generalize w1.alloc (.cells (offW g) 3) = w2 at *
        generalize w1.heap.size = a2 at *
        have v3 := v2.seta r2 nb
        have v4 : VD (((w2.setCell ⟨b, 0, none⟩ (.slice (some ⟨a2, 0, none⟩) g g))).setCell ⟨b, 1, none⟩ (.int .i64 0)) b a2 g ⟨t, 0, fun _ => 0⟩ := v3.setg 0
        have v5 := v4.sett t1
        have v6 := v5.seto 0 m
        have v7 : VD ((((((w2.setCell ⟨b, 0, none⟩ (.slice (some ⟨a2, 0, none⟩) g g)).setCell ⟨b, 1, none⟩ (.int .i64 0)).setCell ⟨b, 2, none⟩ (.int .i64 (t1 : Int))).setCell ⟨a2, 0, none⟩ (.int .i64 (m : Int)))).setCell ⟨b, 1, none⟩ (.int .i64 1)) b a2 g ⟨t1, 1, updI (fun _ => 0) 1 m⟩ := v6.setg 1
        have f7 : Fr (fun k => k = b ∨ k = a) w ((((((w2.setCell ⟨b, 0, none⟩ (.slice (some ⟨a2, 0, none⟩) g g)).setCell ⟨b, 1, none⟩ (.int .i64 0)).setCell ⟨b, 2, none⟩ (.int .i64 (t1 : Int))).setCell ⟨a2, 0, none⟩ (.int .i64 (m : Int)))).setCell ⟨b, 1, none⟩ (.int .i64 1)) := by
          have g2 : Fr (fun k => k = b ∨ k = a) w w2 := K2.fr _
          have g5 := ((g2.set ⟨b, 0, none⟩ (.slice (some ⟨a2, 0, none⟩) g g) (.inl rfl)).set ⟨b, 1, none⟩ (.int .i64 0) (.inl rfl)).set ⟨b, 2, none⟩ (.int .i64 (t1 : Int)) (.inl rfl)
          exact (g5.trans2 ((Fr.refl (· = a2) _).set ⟨a2, 0, none⟩ (.int .i64 (m : Int)) rfl) (fun i hi e => by have e : i = a2 := e; omega)).set ⟨b, 1, none⟩ (.int .i64 1) (.inl rfl)
        have x0 := v2.c0; have x1' := v2.c1; have x2' := v2.c2; have xf := v2.fz
        have y0 := v3.c0; have y1 := v3.c1; have y2 := v3.c2; have yf := v3.fz
        have z0 := v4.c0; have z1 : _ = some (Value.int .i64 0) := v4.c1; have z2 := v4.c2; have zf := v4.fz
        have u0 := v5.c0; have u1 : _ = some (Value.int .i64 0) := v5.c1; have ua : _ = some (Value.int .i64 0) := v5.row.cell 0 (by omega); have uf := v5.fz; have uaf := v5.row.fz
        have p1 : _ = some (Value.int .i64 0) := v6.c1; have pf := v6.fz; have q1 : _ = some (Value.int .i64 1) := v7.c1
        dsimp only at v7 x0 x1' x2' y0 y1 y2 z0 z1 z2 u0 u1 ua p1 q1
        have HV := hid_of (And.intro v7 (And.intro f7 l2))
        clear v1 v2 v3 v4 v5 v6 v7 f7 r2 K1 K2 HH c1 c2 l2 nb
        generalize hw3 : w2.setCell ⟨b, 0, none⟩ (.slice (some ⟨a2, 0, none⟩) g g) = w3 at *
        generalize hw4 : w3.setCell ⟨b, 1, none⟩ (.int .i64 0) = w4 at *
        generalize hw5 : w4.setCell ⟨b, 2, none⟩ (.int .i64 (t1 : Int)) = w5 at *
        generalize hw6 : w5.setCell ⟨a2, 0, none⟩ (.int .i64 (m : Int)) = w6 at *
        generalize hw7 : w6.setCell ⟨b, 1, none⟩ (.int .i64 1) = w7 at *
        obtain ⟨t0, t2⟩ := HT.out
        go_wp2_with fail
        go_region
        go_wp2_with fail
        go_ret3
        exact ⟨by simp, ⟨a2, HV.out.1.kp (Kp.refl _).drew, .inr HV.out.2.2⟩, HV.out.2.1.drew⟩
      · have hd : decide (g = n) = false := decide_eq_false d
        have hgv : givS ⟨t, g, f⟩ (m : Int) = ⟨t, g + 1, updI f (g + 1) m⟩ := rfl
        simp only [hgv, hd, if_neg d]
        have HH : Hid (VD w b a n ⟨t, g, f⟩) := h
        have c0 := h.c0
        have c1 := h.c1
        dsimp only at c0 c1
        have b1 : ((g : Int) == (n : Int)) = false := by rw [beq_eq_false_iff_ne]; omega
        have b2 : (g == n) = false := by rw [beq_eq_false_iff_ne]; exact d
        have y9 : (g : Int) < n := by omega
        have y8 : (n : Int) ≤ 255 := by omega
        clear h ok c c' hg hx hgv hd ht g1 d n2
        go_enter Try.func9, Try.ntmps9
        go_wp2_with fail
        with_reducible refine k1.mono ?_
        rintro e w ⟨rfl, rfl⟩
        go_wp2_with fail
        go_quiet (fail)
        have v1 := HH.out.kp ((Kp.refl w).drewN nq)
        have K1 : Kp w (w.drewN nq) := (Kp.refl w).drewN nq
        generalize w.drewN nq = w1 at *
        have v2 := v1.seto g m
        have v3 : VD ((w1.setCell ⟨a, g, none⟩ (.int .i64 (m : Int))).setCell ⟨b, 1, none⟩ (.int .i64 ((g + 1 : Nat) : Int))) b a n ⟨t, g + 1, updI f (g + 1) m⟩ := v2.setg (g + 1)
        have f3 : Fr (fun k => k = b ∨ k = a) w ((w1.setCell ⟨a, g, none⟩ (.int .i64 (m : Int))).setCell ⟨b, 1, none⟩ (.int .i64 ((g + 1 : Nat) : Int))) := (((K1.fr _).set ⟨a, g, none⟩ _ (.inr rfl)).set ⟨b, 1, none⟩ _ (.inl rfl))
        have x0 := v1.c0; have x1' := v1.c1; have xa := v1.row.cell g (by omega); have xf := v1.fz; have xaf := v1.row.fz
        have u1 := v2.c1; have uf := v2.fz
        have q1 := v3.c1
        have eg : (g : Int) + 1 = ((g + 1 : Nat) : Int) := by omega
        have ew : IntKind.i64.wrap ((g + 1 : Nat) : Int) = ((g + 1 : Nat) : Int) := by rw [IntKind.wrap_i64]; omega
        dsimp only at x0 x1' xa u1 q1
        have HV := hid_of (And.intro v3 f3)
        clear v1 v2 v3 f3 K1 HH c0 c1
        generalize f (g + 1) = u at *
        generalize hg1 : g + 1 = g1 at *
        have HG : Hid (g + 1 = g1) := hg1
        clear hg1
        generalize hw2 : w1.setCell ⟨a, g, none⟩ (.int .i64 (m : Int)) = w2 at *
        generalize hw3 : w2.setCell ⟨b, 1, none⟩ (.int .i64 (g1 : Int)) = w3 at *
        go_wp2_with fail
        go_region
        go_wp2_with fail
        go_ret3
        have e := HG.out
        subst e
        exact ⟨rfl, ⟨a, HV.out.1.kp (Kp.refl _).drew, .inl rfl⟩, HV.out.2.drew⟩
    · have c' : hs s (m : Int) ≠ 0 := c
      simp only [if_pos c']
      have bz : (hs s (m : Int) != 0) = true := by simp; omega
      rw [bz] at k1
      have HE : Hid ((∃ a', VD w b a' n s ∧ (a' = a ∨ w.heap.size ≤ a')) ∧ Fr (fun k => k = b ∨ k = a) w w) := ⟨⟨a, h, .inl rfl⟩, Fr.refl _ _⟩
      generalize hs s (m : Int) = k at *
      clear h ok c c' hg hx ht bz
      go_enter Try.func9, Try.ntmps9
      go_wp2_with fail
      with_reducible refine k1.mono ?_
      rintro e w ⟨rfl, rfl⟩
      go_wp2
      go_ret3
      exact ⟨rfl, HE.out⟩
end

end Go.Proofs.Ytclheedcdogkbaa
