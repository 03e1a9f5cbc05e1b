/- The walks of heat's functions but Rank and Coldest, and of the document's own answer for gauss, over right heats. -/
import Derived.Test.YtpiekhiamdknjaaW3
import Derived.Sort.Grow
namespace Go.Proofs.Ytpiekhiamdknjaa
open Go.RowKit Go.Sort

/-- The world w' is w behind some draws, with some new blocks. -/
def Gr (w w' : World) : Prop := ∃ q os, w' = grow (w.drewN q) os
theorem Gr.refl (w : World) : Gr w w := ⟨0, #[], by rw [grow_empty]; rfl⟩
theorem Gr.trans {a b c : World} (h : Gr a b) (k : Gr b c) : Gr a c := by
  obtain ⟨q, os, rfl⟩ := h; obtain ⟨q', os', rfl⟩ := k
  exact ⟨q + q', os ++ os', by show grow (grow ((a.drewN q).drewN q') os) os' = _; rw [grow_grow, World.drewN_drewN]⟩
theorem Gr.alloc (w : World) (o : Obj) : Gr w (w.alloc o) := ⟨0, #[o], by rw [alloc_eq_grow]; rfl⟩
theorem Gr.drew (w : World) : Gr w w.drew := ⟨1, #[], by rw [grow_empty]; rfl⟩

set_option maxHeartbeats 400000 in
theorem less_gr (a b c d : Nat) (x y u v : Int) (w : World) (ha : FI a x) (hb : FI b y) (hc : FI c u) (hd : FI d v)
    (hx : x.natAbs ≤ 16777216) (hy : y.natAbs ≤ 16777216) (hu : u.natAbs ≤ 16777216) (hv : v.natAbs ≤ 16777216) :
    Calls Try.prog 31 #[.complex .f64 a b, .complex .f64 c d] w fun e w' => e = .returned (.bool (lessB (x * x + y * y) (u * u + v * v) x u y v)) ∧ Gr w w' := by
  have c1 := fun w => refuse2_new a b c d x y u v w ha hb hc hd hx hy hu hv
  have c2 := fun w => norm_any a b w x y ha hb hx hy
  have c3 := fun w => norm_any c d w u v hc hd hu hv
  have o1 : (FloatKind.f64.format.order a c != some .eq) = !decide (x = u) := by rw [bne, ord_eq ha hc]
  have o2 := ord_lt ha hc
  have o3 := ord_lt hb hd
  clear hx hy hu hv ha hb hc hd
  generalize x * x + y * y = m at c2 ⊢
  generalize u * u + v * v = n at c3 ⊢
  go_enter Try.func31, Try.ntmps31
  go_wp2_with (first | (go_at_call 36; with_reducible refine (c1 _).mono ?_; rintro e w' ⟨rfl, rfl⟩) | (go_at_call 37; with_reducible refine (c2 _).mono ?_; rintro e w' ⟨rfl, rfl⟩) | (go_at_call 37; with_reducible refine (c3 _).mono ?_; rintro e w' ⟨rfl, rfl⟩))
  · go_ret
    exact ⟨ret_bool (less1 x u y v ‹_›), Gr.alloc _ _⟩
  · go_ret
    exact ⟨ret_bool (less2 y v ‹_› ‹_›), Gr.alloc _ _⟩
  · go_ret
    exact ⟨ret_bool (less3 y v ‹_› ‹_›), Gr.alloc _ _⟩

/-! ### gauss.Parts and heat -/
set_option maxHeartbeats 400000 in
theorem parts_any (a b : Nat) (x y : Int) (w : World) (ha : FI a x) (hb : FI b y) (hx : x.natAbs ≤ 4503599627370496) (hy : y.natAbs ≤ 4503599627370496) :
    Calls Try.prog 20 #[.complex .f64 a b] w fun e w' => e = .returned (.tuple #[.int .i64 x, .int .i64 y, .int .i64 0]) ∧ w' = w := by
  have c1 := fun w => isWhole_true a b w x y ha hb hx hy
  have h1 := fun w => run_convert_float_int (P := Try.prog) w 28 3 .f64 .i64 a _ (by kernel_rfl) (by kernel_rfl) (FI_toInt ha (by omega))
  have h2 := fun w => run_convert_float_int (P := Try.prog) w 28 3 .f64 .i64 b _ (by kernel_rfl) (by kernel_rfl) (FI_toInt hb (by omega))
  clear ha hb hx hy
  go_enter Try.func20, Try.ntmps20
  go_wp2_with (go_at_call 28; with_reducible refine (c1 _).mono ?_; rintro e w' ⟨rfl, rfl⟩)
  go_ret3
  exact ⟨rfl, rfl⟩

def isC (n : Int) : Bool := decide (0 ≤ n ∧ n ≤ 1048576)
theorem isC1 {n : Int} (h : 0 ≤ n) : decide (n ≤ 1048576) = isC n := by unfold isC; simp [h]
theorem isC0 {n : Int} (h : n < 0) : false = isC n := by unfold isC; simp; omega
theorem isC_of {n : Int} (h : 0 ≤ n) (h' : n ≤ 1048576) : isC n = true := by unfold isC; simp [h, h']

set_option maxHeartbeats 400000 in
theorem isCount_any (n : Int) (w : World) : Calls Try.prog 21 #[.int .i64 n] w fun e w' => e = .returned (.bool (isC n)) ∧ w' = w := by
  by_cases h : 0 ≤ n
  · rw [← isC1 h]
    go_enter Try.func21, Try.ntmps21
    go_wp2
    go_ret
    exact ⟨rfl, rfl⟩
  · rw [← isC0 (by omega)]
    go_enter Try.func21, Try.ntmps21
    go_wp2
    go_ret
    exact ⟨rfl, rfl⟩

set_option maxHeartbeats 400000 in
theorem right_any (a b : Nat) (x y : Int) (w : World) (ha : FI a x) (hb : FI b y) (hx : x.natAbs ≤ 4503599627370496) (hy : y.natAbs ≤ 4503599627370496) :
    Calls Try.prog 10 #[.complex .f64 a b] w fun e w' => e = .returned (.bool (isC x && isC y)) ∧ w' = w := by
  have c1 := fun w => parts_any a b x y w ha hb hx hy
  have c2 := isCount_any x
  have c3 := isCount_any y
  clear ha hb hx hy
  generalize isC x = p at *
  generalize isC y = q at *
  cases p <;> cases q <;>
  · go_enter Try.func10, Try.ntmps10
    go_wp2_with (first | (go_at_call 20; with_reducible refine (c1 _).mono ?_; rintro e w' ⟨rfl, rfl⟩) | (go_at_call 21; with_reducible refine (c2 _).mono ?_; rintro e w' ⟨rfl, rfl⟩) | (go_at_call 21; with_reducible refine (c3 _).mono ?_; rintro e w' ⟨rfl, rfl⟩))
    go_ret
    exact ⟨rfl, rfl⟩

/-- A right heat's parts. -/
structure RH (x y : Int) : Prop where
  x0 : 0 ≤ x
  x1 : x ≤ 1048576
  y0 : 0 ≤ y
  y1 : y ≤ 1048576

theorem right_true (a b : Nat) (x y : Int) (w : World) (ha : FI a x) (hb : FI b y) (h : RH x y) :
    Calls Try.prog 10 #[.complex .f64 a b] w fun e w' => e = .returned (.bool true) ∧ w' = w := by
  have := right_any a b x y w ha hb (by have := h.x0; have := h.x1; omega) (by have := h.y0; have := h.y1; omega)
  rwa [isC_of h.x0 h.x1, isC_of h.y0 h.y1] at this

set_option maxHeartbeats 400000 in
theorem counts_any (a b : Nat) (x y : Int) (w : World) (ha : FI a x) (hb : FI b y) (h : RH x y) :
    Calls Try.prog 17 #[.complex .f64 a b] w fun e w' => e = .returned (.tuple #[.int .i64 x, .int .i64 y]) ∧ w' = w := by
  have c1 := fun w => right_true a b x y w ha hb h
  have c2 := fun w => parts_any a b x y w ha hb (by have := h.x0; have := h.x1; omega) (by have := h.y0; have := h.y1; omega)
  clear ha hb h
  go_enter Try.func17, Try.ntmps17
  go_wp2_with (first | (go_at_call 20; with_reducible refine (c2 _).mono ?_; rintro e w' ⟨rfl, rfl⟩) | (go_at_call 10; with_reducible refine (c1 _).mono ?_; rintro e w' ⟨rfl, rfl⟩))
  go_ret2
  exact ⟨rfl, rfl⟩

set_option maxHeartbeats 400000 in
theorem oneMore_any (n : Int) (w : World) (h0 : 0 ≤ n) (h1 : n ≤ 1048576) : Calls Try.prog 18 #[.int .i64 n] w fun e w' => e = .returned (.int .i64 (min (n + 1) 1048576)) ∧ w' = w := by
  by_cases h : 1048576 < n + 1
  · rw [Int.min_eq_right (by omega)]
    go_enter Try.func18, Try.ntmps18
    go_wp2
    go_ret
    exact ⟨rfl, rfl⟩
  · rw [Int.min_eq_left (by omega)]
    go_enter Try.func18, Try.ntmps18
    go_wp2
    go_ret
    exact ⟨rfl, rfl⟩

set_option maxHeartbeats 400000 in
theorem heatOf_any (x y : Int) (w : World) (hx : x.natAbs ≤ 4503599627370496) (hy : y.natAbs ≤ 4503599627370496) :
    Calls Try.prog 19 #[.int .i64 x, .int .i64 y] w fun e w' => e = .returned (.complex .f64 (floatOfInt .f64 x) (floatOfInt .f64 y)) ∧ w' = w := by
  have c1 := fun w => of_any x y w hx hy
  clear hx hy
  go_enter Try.func19, Try.ntmps19
  go_wp2_with (go_at_call 27; with_reducible refine (c1 _).mono ?_; rintro e w' ⟨rfl, rfl⟩)
  go_ret
  exact ⟨rfl, rfl⟩

theorem heatOf_at (x y : Int) (w : World) (h : RH x y) :
    Calls Try.prog 19 #[.int .i64 x, .int .i64 y] w fun e w' => e = .returned (.complex .f64 (floatOfInt .f64 x) (floatOfInt .f64 y)) ∧ w' = w :=
  heatOf_any x y w (by have := h.x0; have := h.x1; omega) (by have := h.y0; have := h.y1; omega)

theorem RH.fx {x y : Int} (h : RH x y) : FC (floatOfInt .f64 x) x := FC_of_int x (by have := h.x0; have := h.x1; omega)
theorem RH.fy {x y : Int} (h : RH x y) : FC (floatOfInt .f64 y) y := FC_of_int y (by have := h.y0; have := h.y1; omega)
theorem RH.ax {x y : Int} (h : RH x y) : x.natAbs ≤ 16777216 := by have := h.x0; have := h.x1; omega
theorem RH.ay {x y : Int} (h : RH x y) : y.natAbs ≤ 16777216 := by have := h.y0; have := h.y1; omega

set_option maxHeartbeats 400000 in
theorem counted_any (a b : Nat) (x y : Int) (w : World) (ha : FI a x) (hb : FI b y) (h : RH x y) :
    Calls Try.prog 30 #[.complex .f64 a b] w fun e w' => e = .returned (.complex .f64 (floatOfInt .f64 x) (floatOfInt .f64 y)) ∧ w' = w := by
  have c1 := fun w => counts_any a b x y w ha hb h
  have c2 := fun w => heatOf_at x y w h
  clear ha hb h
  go_enter Try.func30, Try.ntmps30
  go_wp2_with (first | (go_at_call 17; with_reducible refine (c1 _).mono ?_; rintro e w' ⟨rfl, rfl⟩) | (go_at_call 19; with_reducible refine (c2 _).mono ?_; rintro e w' ⟨rfl, rfl⟩))
  go_ret
  exact ⟨rfl, rfl⟩

/-- A heat's parts behind a touch, by reads and by stores. -/
def tx (x : Int) (s : Bool) : Int := if s then x else min (x + 1) 1048576
def ty (y : Int) (s : Bool) : Int := if s then min (y + 1) 1048576 else y
theorem RH.touch {x y : Int} (h : RH x y) (s : Bool) : RH (tx x s) (ty y s) := by
  have := h.x0; have := h.x1; have := h.y0; have := h.y1
  unfold tx ty
  cases s <;> constructor <;> simp <;> omega

set_option maxHeartbeats 400000 in
theorem touch_any (a b : Nat) (x y : Int) (s : Bool) (w : World) (ha : FI a x) (hb : FI b y) (h : RH x y) :
    Calls Try.prog 9 #[.complex .f64 a b, .bool s] w fun e w' => e = .returned (.complex .f64 (floatOfInt .f64 (tx x s)) (floatOfInt .f64 (ty y s))) ∧ w' = w := by
  have c1 := fun w => counts_any a b x y w ha hb h
  have c2 := fun w => heatOf_at _ _ w (h.touch s)
  have c3 := fun w => oneMore_any x w h.x0 h.x1
  have c4 := fun w => oneMore_any y w h.y0 h.y1
  clear ha hb h
  cases s
  · simp only [tx, ty, Bool.false_eq_true, if_false] at c2 ⊢
    generalize min (x + 1) 1048576 = x' at *
    go_enter Try.func9, Try.ntmps9
    go_wp2_with (first | (go_at_call 17; with_reducible refine (c1 _).mono ?_; rintro e w' ⟨rfl, rfl⟩) | (go_at_call 19; with_reducible refine (c2 _).mono ?_; rintro e w' ⟨rfl, rfl⟩) | (go_at_call 18; with_reducible refine (c3 _).mono ?_; rintro e w' ⟨rfl, rfl⟩))
    go_ret
    exact ⟨rfl, rfl⟩
  · simp only [tx, ty, if_true] at c2 ⊢
    generalize min (y + 1) 1048576 = y' at *
    go_enter Try.func9, Try.ntmps9
    go_wp2_with (first | (go_at_call 17; with_reducible refine (c1 _).mono ?_; rintro e w' ⟨rfl, rfl⟩) | (go_at_call 19; with_reducible refine (c2 _).mono ?_; rintro e w' ⟨rfl, rfl⟩) | (go_at_call 18; with_reducible refine (c4 _).mono ?_; rintro e w' ⟨rfl, rfl⟩))
    go_ret
    exact ⟨rfl, rfl⟩

theorem RH.fade {x y : Int} (h : RH x y) : RH (x / 2) (y / 2) := by
  have := h.x0; have := h.x1; have := h.y0; have := h.y1
  constructor <;> omega

set_option maxHeartbeats 400000 in
theorem fade_any (a b : Nat) (x y : Int) (w : World) (ha : FI a x) (hb : FI b y) (h : RH x y) :
    Calls Try.prog 11 #[.complex .f64 a b] w fun e w' => e = .returned (.complex .f64 (floatOfInt .f64 (x / 2)) (floatOfInt .f64 (y / 2))) ∧ w' = w := by
  have c1 := fun w => counts_any a b x y w ha hb h
  have c2 := fun w => heatOf_at _ _ w h.fade
  have e1 : wrap64 (x.tdiv 2) = x / 2 := by rw [Int.tdiv_eq_ediv_of_nonneg h.x0]; exact wrap64_id (by have := h.x0; omega) (by have := h.x1; omega)
  have e2 : wrap64 (y.tdiv 2) = y / 2 := by rw [Int.tdiv_eq_ediv_of_nonneg h.y0]; exact wrap64_id (by have := h.y0; omega) (by have := h.y1; omega)
  rw [← e1, ← e2] at c2 ⊢
  clear ha hb h e1 e2
  go_enter Try.func11, Try.ntmps11
  go_wp2_with (first | (go_at_call 17; with_reducible refine (c1 _).mono ?_; rintro e w' ⟨rfl, rfl⟩) | (go_at_call 19; with_reducible refine (c2 _).mono ?_; rintro e w' ⟨rfl, rfl⟩))
  go_ret
  exact ⟨rfl, rfl⟩

/-- The order of heats by their parts. -/
def hlt (p q : Int × Int) : Bool := lessB (p.1 * p.1 + p.2 * p.2) (q.1 * q.1 + q.2 * q.2) p.1 q.1 p.2 q.2
def hcmp (p q : Int × Int) : Int := if hlt p q then -1 else if hlt q p then 1 else 0
theorem hcmp_neg (p q : Int × Int) : decide (hcmp p q < 0) = hlt p q := by
  unfold hcmp; cases hlt p q <;> simp; split <;> omega

set_option maxHeartbeats 400000 in
theorem compare_any (a b c d : Nat) (p q : Int × Int) (w : World) (ha : FI a p.1) (hb : FI b p.2) (hc : FI c q.1) (hd : FI d q.2) (h : RH p.1 p.2) (k : RH q.1 q.2) :
    Calls Try.prog 24 #[.complex .f64 a b, .complex .f64 c d] w fun e w' => e = .returned (.int .i64 (hcmp p q)) ∧ Gr w w' := by
  have c1 := fun w => counted_any a b _ _ w ha hb h
  have c2 := fun w => counted_any c d _ _ w hc hd k
  have c3 := fun w => less_gr _ _ _ _ _ _ _ _ w h.fx.1 h.fy.1 k.fx.1 k.fy.1 h.ax h.ay k.ax k.ay
  have c4 := fun w => less_gr _ _ _ _ _ _ _ _ w k.fx.1 k.fy.1 h.fx.1 h.fy.1 k.ax k.ay h.ax h.ay
  have e1 : lessB (p.1 * p.1 + p.2 * p.2) (q.1 * q.1 + q.2 * q.2) p.1 q.1 p.2 q.2 = hlt p q := rfl
  have e2 : lessB (q.1 * q.1 + q.2 * q.2) (p.1 * p.1 + p.2 * p.2) q.1 p.1 q.2 p.2 = hlt q p := rfl
  rw [e1] at c3
  rw [e2] at c4
  clear ha hb hc hd h k e1 e2
  generalize hm : hcmp p q = m
  unfold hcmp at hm
  generalize hlt p q = r at *
  generalize hlt q p = s at *
  cases r
  · cases s
    · simp at hm; subst hm
      go_enter Try.func24, Try.ntmps24
      go_wp2_with (first | (go_at_call 30; with_reducible refine (c1 _).mono ?_; rintro e w' ⟨rfl, rfl⟩) | (go_at_call 30; with_reducible refine (c2 _).mono ?_; rintro e w' ⟨rfl, rfl⟩) | (go_at_call 31; with_reducible refine (c3 _).mono ?_; rintro e w1 ⟨rfl, g1⟩) | (go_at_call 31; with_reducible refine (c4 _).mono ?_; rintro e w2 ⟨rfl, g2⟩))
      go_ret
      exact ⟨rfl, g1.trans g2⟩
    · simp at hm; subst hm
      go_enter Try.func24, Try.ntmps24
      go_wp2_with (first | (go_at_call 30; with_reducible refine (c1 _).mono ?_; rintro e w' ⟨rfl, rfl⟩) | (go_at_call 30; with_reducible refine (c2 _).mono ?_; rintro e w' ⟨rfl, rfl⟩) | (go_at_call 31; with_reducible refine (c3 _).mono ?_; rintro e w1 ⟨rfl, g1⟩) | (go_at_call 31; with_reducible refine (c4 _).mono ?_; rintro e w2 ⟨rfl, g2⟩))
      go_ret
      exact ⟨rfl, g1.trans g2⟩
  · simp at hm; subst hm
    go_enter Try.func24, Try.ntmps24
    go_wp2_with (first | (go_at_call 30; with_reducible refine (c1 _).mono ?_; rintro e w' ⟨rfl, rfl⟩) | (go_at_call 30; with_reducible refine (c2 _).mono ?_; rintro e w' ⟨rfl, rfl⟩) | (go_at_call 31; with_reducible refine (c3 _).mono ?_; rintro e w1 ⟨rfl, g1⟩))
    go_ret
    exact ⟨rfl, g1⟩

end Go.Proofs.Ytpiekhiamdknjaa
