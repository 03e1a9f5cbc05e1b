/- The walks of the document's own answer for gauss, over whole small numbers: part, Whole, near, Small, forms, Norm, Less, Make. -/
import Derived.Test.YtpiekhiamdknjaaH1
namespace Go.Proofs.Ytpiekhiamdknjaa
open Go.RowKit Go.Sort

theorem FI_mwhole : FI 14064741636278059008 (-4503599627370496) := FI_const _ (by decide) (by decide)

set_option maxHeartbeats 400000 in
theorem rpart_any (a : Nat) (x : Int) (w : World) (ha : FI a x) (hx : x.natAbs ≤ 4503599627370496) :
    Calls Try.prog 26 #[.float .f64 a] w fun e w' => e = .returned (.tuple #[.int .i64 x, .bool true]) ∧ w' = w := by
  have o1 : (FloatKind.f64.format.order a 14064741636278059008 == some .gt || FloatKind.f64.format.order a 14064741636278059008 == some .eq) = true := by
    show ((Ieee.double.order a 14064741636278059008 == some .gt) || (Ieee.double.order a 14064741636278059008 == some .eq)) = true
    rw [FI_order ha FI_mwhole]
    rcases Int.lt_trichotomy x (-4503599627370496) with h | h | h
    · omega
    · rw [h]; decide
    · have : compare x (-4503599627370496) = .gt := by rw [Int.compare_eq_gt]; exact h
      rw [this]; rfl
  have o2 : (FloatKind.f64.format.order a 4841369599423283200 == some .lt || FloatKind.f64.format.order a 4841369599423283200 == some .eq) = true := by
    rw [ord_le ha FI_whole]; exact decide_eq_true (by omega)
  have h1 := fun w => run_convert_float_int (P := Try.prog) w 28 3 .f64 .i64 a _ (by kernel_rfl) (by kernel_rfl) (FI_toInt ha (by omega))
  have o3 : (FloatKind.f64.format.order (floatOfInt .f64 x) a == some .eq) = true := by
    rw [ord_eq (FI_of_int x (by omega)) ha]; simp
  clear ha hx
  go_enter Try.func26, Try.ntmps26
  go_wp2
  go_ret2
  exact ⟨rfl, rfl⟩

set_option maxHeartbeats 400000 in
theorem rwhole_any (a b : Nat) (x y : Int) (w : World) (ha : FI a x) (hb : FI b y) (hx : x.natAbs ≤ 4503599627370496) (hy : y.natAbs ≤ 4503599627370496) :
    Calls Try.prog 16 #[.complex .f64 a b] w fun e w' => e = .returned (.tuple #[.int .i64 x, .int .i64 y, .bool true]) ∧ w' = w := by
  have c1 := fun w => rpart_any a x w ha hx
  have c2 := fun w => rpart_any b y w hb hy
  clear ha hb hx hy
  go_enter Try.func16, Try.ntmps16
  go_wp2_with (first | (go_at_call 26; with_reducible refine (c1 _).mono ?_; rintro e w' ⟨rfl, rfl⟩) | (go_at_call 26; with_reducible refine (c2 _).mono ?_; rintro e w' ⟨rfl, rfl⟩))
  go_ret3
  exact ⟨rfl, rfl⟩

set_option maxHeartbeats 400000 in
theorem rnear_true (n : Int) (w : World) (h : n.natAbs ≤ 16777216) :
    Calls Try.prog 38 #[.int .i64 n, .int .i64 16777216] w fun e w' => e = .returned (.bool true) ∧ w' = w := by
  have h1 : -16777216 ≤ n := by omega
  have h2 : n ≤ 16777216 := by omega
  clear h
  go_enter Try.func38, Try.ntmps38
  go_wp2
  go_ret
  exact ⟨rfl, rfl⟩

set_option maxHeartbeats 400000 in
theorem rsmall_true (a b : Nat) (x y : Int) (w : World) (ha : FI a x) (hb : FI b y) (hx : x.natAbs ≤ 16777216) (hy : y.natAbs ≤ 16777216) :
    Calls Try.prog 32 #[.complex .f64 a b] w fun e w' => e = .returned (.bool true) ∧ w' = w := by
  have c1 := fun w => rwhole_any a b x y w ha hb (by omega) (by omega)
  have c2 := fun w => rnear_true x w hx
  have c3 := fun w => rnear_true y w hy
  clear ha hb hx hy
  go_enter Try.func32, Try.ntmps32
  go_wp2_with (first | (go_at_call 16; with_reducible refine (c1 _).mono ?_; rintro e w' ⟨rfl, rfl⟩) | (go_at_call 38; with_reducible refine (c2 _).mono ?_; rintro e w' ⟨rfl, rfl⟩) | (go_at_call 38; with_reducible refine (c3 _).mono ?_; rintro e w' ⟨rfl, rfl⟩))
  go_ret
  exact ⟨rfl, rfl⟩

set_option maxHeartbeats 400000 in
theorem rforms_any (a b : Nat) (x y : Int) (w : World) (ha : FI a x) (hb : FI b y) (hx : x.natAbs ≤ 16777216) (hy : y.natAbs ≤ 16777216) :
    Calls Try.prog 25 #[.complex .f64 a b, .complex .f64 a b, .bool true] w fun e w' => e = .returned (.int .i64 0) ∧ w' = w := by
  have c1 := fun w => rwhole_any a b x y w ha hb (by omega) (by omega)
  have c2 := fun w => rsmall_true a b x y w ha hb hx hy
  clear ha hb hx hy
  go_enter Try.func25, Try.ntmps25
  go_wp2_with (first | (go_at_call 16; with_reducible refine (c1 _).mono ?_; rintro e w' ⟨rfl, rfl⟩) | (go_at_call 32; with_reducible refine (c2 _).mono ?_; rintro e w' ⟨rfl, rfl⟩))
  go_ret
  exact ⟨rfl, rfl⟩

set_option maxHeartbeats 400000 in
theorem rnorm_any (a b : Nat) (x y : Int) (w : World) (ha : FI a x) (hb : FI b y) (hx : x.natAbs ≤ 16777216) (hy : y.natAbs ≤ 16777216) :
    Calls Try.prog 14 #[.complex .f64 a b] w fun e w' => e = .returned (.tuple #[.int .i64 (x * x + y * y), .int .i64 0]) ∧ w' = w := by
  have c1 := fun w => rwhole_any a b x y w ha hb (by omega) (by omega)
  have c2 := fun w => rforms_any a b x y w ha hb hx hy
  have m1 := mul_le hx hx
  have m2 := mul_le hy hy
  have e1 : IntKind.i64.wrap (x * x) = x * x := by rw [IntKind.wrap_i64]; omega
  have e2 : IntKind.i64.wrap (y * y) = y * y := by rw [IntKind.wrap_i64]; omega
  have e3 : IntKind.i64.wrap (x * x + y * y) = x * x + y * y := by rw [IntKind.wrap_i64]; omega
  have e4 : wrap64 (x * x) = x * x := wrap64_id (by omega) (by omega)
  have e5 : wrap64 (y * y) = y * y := wrap64_id (by omega) (by omega)
  have e6 : wrap64 (x * x + y * y) = x * x + y * y := wrap64_id (by omega) (by omega)
  clear ha hb hx hy m1 m2
  go_enter Try.func14, Try.ntmps14
  go_wp2_with (first | (go_at_call 16; with_reducible refine (c1 _).mono ?_; rintro e w' ⟨rfl, rfl⟩) | (go_at_call 25; with_reducible refine (c2 _).mono ?_; rintro e w' ⟨rfl, rfl⟩))
  go_ret2
  exact ⟨rfl, rfl⟩

set_option maxHeartbeats 400000 in
theorem rless_any (a b c d : Nat) (p q : Int × Int) (w : World) (ha : FI a p.1) (hb : FI b p.2) (hc : FI c q.1) (hd : FI d q.2)
    (hx : p.1.natAbs ≤ 16777216) (hy : p.2.natAbs ≤ 16777216) (hu : q.1.natAbs ≤ 16777216) (hv : q.2.natAbs ≤ 16777216) :
    Calls Try.prog 8 #[.complex .f64 a b, .complex .f64 c d] w fun e w' => e = .returned (.bool (hlt p q)) ∧ w' = w := by
  have c1 := fun w => rnorm_any a b _ _ w ha hb hx hy
  have c2 := fun w => rnorm_any c d _ _ w hc hd hu hv
  have c3 := fun w => rwhole_any a b _ _ w ha hb (by omega) (by omega)
  have c4 := fun w => rwhole_any c d _ _ w hc hd (by omega) (by omega)
  unfold hlt
  clear ha hb hc hd hx hy hu hv
  generalize p.1 * p.1 + p.2 * p.2 = m at *
  generalize q.1 * q.1 + q.2 * q.2 = n at *
  generalize p.1 = x at *
  generalize p.2 = y at *
  generalize q.1 = u at *
  generalize q.2 = v at *
  by_cases h1 : m = n
  · by_cases h2 : x = u
    · rw [← less3 (m := m) (n := n) (x := x) (u := u) y v (by simp [h1]) (by simp [h2])]
      go_enter Try.func8, Try.ntmps8
      go_wp2_with (first | (go_at_call 14; with_reducible refine (c1 _).mono ?_; rintro e w' ⟨rfl, rfl⟩) | (go_at_call 14; with_reducible refine (c2 _).mono ?_; rintro e w' ⟨rfl, rfl⟩) | (go_at_call 16; with_reducible refine (c3 _).mono ?_; rintro e w' ⟨rfl, rfl⟩) | (go_at_call 16; with_reducible refine (c4 _).mono ?_; rintro e w' ⟨rfl, rfl⟩))
      go_ret
      exact ⟨rfl, rfl⟩
    · rw [← less2 (m := m) (n := n) (x := x) (u := u) y v (by simp [h1]) (by simp [h2])]
      go_enter Try.func8, Try.ntmps8
      go_wp2_with (first | (go_at_call 14; with_reducible refine (c1 _).mono ?_; rintro e w' ⟨rfl, rfl⟩) | (go_at_call 14; with_reducible refine (c2 _).mono ?_; rintro e w' ⟨rfl, rfl⟩) | (go_at_call 16; with_reducible refine (c3 _).mono ?_; rintro e w' ⟨rfl, rfl⟩) | (go_at_call 16; with_reducible refine (c4 _).mono ?_; rintro e w' ⟨rfl, rfl⟩))
      go_ret
      exact ⟨rfl, rfl⟩
  · rw [← less1 (m := m) (n := n) x u y v (by simp [h1])]
    go_enter Try.func8, Try.ntmps8
    go_wp2_with (first | (go_at_call 14; with_reducible refine (c1 _).mono ?_; rintro e w' ⟨rfl, rfl⟩) | (go_at_call 14; with_reducible refine (c2 _).mono ?_; rintro e w' ⟨rfl, rfl⟩) | (go_at_call 16; with_reducible refine (c3 _).mono ?_; rintro e w' ⟨rfl, rfl⟩) | (go_at_call 16; with_reducible refine (c4 _).mono ?_; rintro e w' ⟨rfl, rfl⟩))
    go_ret
    exact ⟨rfl, rfl⟩

set_option maxHeartbeats 400000 in
theorem make_any (x y : Int) (w : World) : Calls Try.prog 7 #[.int .i64 x, .int .i64 y] w fun e w' => e = .returned (.complex .f64 (floatOfInt .f64 x) (floatOfInt .f64 y)) ∧ w' = w := by
  go_enter Try.func7, Try.ntmps7
  go_wp2
  go_ret
  exact ⟨rfl, rfl⟩

end Go.Proofs.Ytpiekhiamdknjaa
