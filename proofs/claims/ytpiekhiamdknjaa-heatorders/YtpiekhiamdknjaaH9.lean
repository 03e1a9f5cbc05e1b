/- HeatWarms: touched, a page is not colder; fades keep the order of the parts; behind 21 fades each is 0. -/
import Derived.Test.YtpiekhiamdknjaaH8
import Derived.Laws.Bits128
namespace Go.Proofs.Ytpiekhiamdknjaa
open Go.RowKit Go.Sort Go.Shelf Go.Lib

theorem i64_mask (k : Nat) (M : Int) (n : Int) (hk : k ≤ 62) (h : (BitVec.ofInt 64 M).toNat = 2 ^ k - 1) : bits .and .i64 n M = n % ((2 ^ k : Nat) : Int) := by
  have key : (BitVec.ofInt 64 n &&& BitVec.ofInt 64 M).toNat = (n % ((2 ^ 64 : Nat) : Int)).toNat % 2 ^ k := by
    rw [BitVec.toNat_and, BitVec.toNat_ofInt, h, Nat.and_two_pow_sub_one_eq_mod]
  show IntKind.i64.wrap ((BitVec.ofInt 64 n &&& BitVec.ofInt 64 M).toNat : Nat) = _
  have hd : (2 ^ k : Nat) ∣ 2 ^ 64 := Nat.pow_dvd_pow 2 (by omega)
  have hp : 2 ^ k ≤ 2 ^ 62 := Nat.pow_le_pow_right (by decide) hk
  have hpos : 0 < 2 ^ k := Nat.two_pow_pos k
  have e1 : ((((n % ((2 ^ 64 : Nat) : Int)).toNat % 2 ^ k : Nat)) : Int) = n % ((2 ^ k : Nat) : Int) := by
    rw [Int.natCast_emod, Int.toNat_of_nonneg (Int.emod_nonneg _ (by decide)), Int.emod_emod_of_dvd _ (Int.natCast_dvd_natCast.2 hd)]
  rw [key, IntKind.wrap_i64, e1]
  have l1 := Int.emod_nonneg n (b := ((2 ^ k : Nat) : Int)) (by omega)
  have l2 := Int.emod_lt_of_pos n (b := ((2 ^ k : Nat) : Int)) (by omega)
  omega
theorem mask20 (n : Int) : bits .and .i64 n 1048575 = n % 1048576 := i64_mask 20 1048575 n (by decide) (by decide)
theorem mask10 (n : Int) : bits .and .i64 n 1023 = n % 1024 := i64_mask 10 1023 n (by decide) (by decide)
theorem mask5 (n : Int) : bits .and .i64 n 31 = n % 32 := i64_mask 5 31 n (by decide) (by decide)
theorem mask2 (n : Int) : bits .and .i64 n 3 = n % 4 := i64_mask 2 3 n (by decide) (by decide)

theorem ord_gt {a b : Nat} {x y : Int} (ha : FI a x) (hb : FI b y) (h : x ≤ y) : (FloatKind.f64.format.order a b == some .gt) = false := by
  show (Ieee.double.order a b == some .gt) = false
  rw [FI_order ha hb]
  rcases Int.lt_or_eq_of_le h with h | h
  · rw [Int.compare_eq_lt.2 h]; rfl
  · rw [Int.compare_eq_eq.2 h]; rfl

theorem sq_mono {x u : Int} (h0 : 0 ≤ x) (h : x ≤ u) : x * x ≤ u * u := Int.mul_le_mul h h h0 (by omega)

theorem touch_warm (x y : Int) (s : Bool) (h : RH x y) : hlt (tx x s, ty y s) (x, y) = false := by
  have := h.x0; have := h.y0; have := h.x1; have := h.y1
  have e1 : x ≤ tx x s := by unfold tx; cases s <;> simp <;> omega
  have e2 : y ≤ ty y s := by unfold ty; cases s <;> simp <;> omega
  have m1 := sq_mono h.x0 e1
  have m2 := sq_mono h.y0 e2
  simp only [hlt, lessB, decide_eq_false_iff_not]
  generalize tx x s * tx x s = p at *
  generalize ty y s * ty y s = q at *
  generalize x * x = r at *
  generalize y * y = t at *
  omega

theorem rh_mod (a b : Int) : RH (a % 1048576) (b % 1048576) := by constructor <;> omega

set_option maxHeartbeats 400000 in
theorem rightof_any (a b : Int) (w : World) : Calls Try.prog 6 #[.int .i64 a, .int .i64 b] w fun e w' => e = .returned (.complex .f64 (floatOfInt .f64 (a % 1048576)) (floatOfInt .f64 (b % 1048576))) ∧ w' = w := by
  have e1 := mask20 a
  have e2 := mask20 b
  have c1 := make_any (a % 1048576) (b % 1048576)
  generalize a % 1048576 = x at *
  generalize b % 1048576 = y at *
  go_enter Try.func6, Try.ntmps6
  go_wp2_with (go_at_call 7; with_reducible refine (c1 _).mono ?_; rintro e w' ⟨rfl, rfl⟩)
  go_ret
  exact ⟨rfl, rfl⟩

/-- A heat's size bound behind i fades. -/
theorem half_lt {x : Int} {i : Nat} (hi : i < 21) (h : x < ((2 ^ (21 - i) : Nat) : Int)) : x / 2 < ((2 ^ (21 - (i + 1)) : Nat) : Int) := by
  have e : 2 ^ (21 - i) = 2 ^ (21 - (i + 1)) * 2 := by rw [← Nat.pow_succ]; congr 1; omega
  rw [e] at h
  omega

theorem Kp.same {w : World} : Kp w w := Kp.refl w

set_option maxHeartbeats 4000000 in
set_option maxRecDepth 100000 in
theorem warms_any (a b c d : Int) (s : Bool) (w : World) : Calls Try.prog 3 #[.int .i64 a, .int .i64 b, .int .i64 c, .int .i64 d, .bool s] w fun e w' => e = .returned (.bool true) ∧ Kp w w' := by
  have e1 := mask20 a
  have e2 := mask20 b
  have e3 := mask10 c
  have e4 := mask10 d
  have c1 := rightof_any a b
  have R := rh_mod a b
  have g1 : 0 ≤ c % 1024 ∧ c % 1024 ≤ 1023 := by omega
  have g2 : 0 ≤ d % 1024 ∧ d % 1024 ≤ 1023 := by omega
  generalize a % 1048576 = x at *
  generalize b % 1048576 = y at *
  generalize c % 1024 = p at *
  generalize d % 1024 = q at *
  have b1 := R.x0; have b2 := R.x1; have b3 := R.y0; have b4 := R.y1
  obtain ⟨g1, g1'⟩ := g1
  obtain ⟨g2, g2'⟩ := g2
  have c2 := make_any (x + p) (y + q)
  have c3 := fun w => touch_any _ _ x y s w R.fx.1 R.fy.1 R
  have c4 := fun w => rless_any _ _ _ _ (tx x s, ty y s) (x, y) w (R.touch s).fx.1 (R.touch s).fy.1 R.fx.1 R.fy.1 (R.touch s).ax (R.touch s).ay R.ax R.ay
  rw [touch_warm x y s R] at c4
  have FY1 : FI (floatOfInt .f64 (x + p)) (x + p) := FI_of_int _ (by omega)
  have FY2 : FI (floatOfInt .f64 (y + q)) (y + q) := FI_of_int _ (by omega)
  have c5 := fun w => right_any _ _ (x + p) (y + q) w FY1 FY2 (by omega) (by omega)
  have c6 := fun w => fade_any _ _ x y w R.fx.1 R.fy.1 R
  have RR : Aside (RH x y) := R
  cases hR : isC (x + p) && isC (y + q) with
  | false =>
    rw [hR] at c5
    clear hR c6 R FY1 FY2
    go_enter Try.func3, Try.ntmps3
    go_wp2_with (first | (go_at_call 6; with_reducible refine (c1 _).mono ?_; rintro e w' ⟨rfl, rfl⟩) | (go_at_call 7; with_reducible refine (c2 _).mono ?_; rintro e w' ⟨rfl, rfl⟩) | (go_at_call 9; with_reducible refine (c3 _).mono ?_; rintro e w' ⟨rfl, rfl⟩) | (go_at_call 8; with_reducible refine (c4 _).mono ?_; rintro e w' ⟨rfl, rfl⟩) | (go_at_call 10; with_reducible refine (c5 _).mono ?_; rintro e w' ⟨rfl, rfl⟩))
    clear c1 c2 c3 c4 c5 e1 e2 e3 e4
    go_loopg [11, 15] 21 (fun g v11 v15 wr => ∃ (i : Nat) (X Y : Int), v11 = .complex .f64 (floatOfInt .f64 X) (floatOfInt .f64 Y) ∧ v15 = .int .i64 i ∧ i ≤ 21 ∧ 21 - i ≤ g ∧ Hid (RH X Y) ∧ Hid (X < ((2 ^ (21 - i) : Nat) : Int)) ∧ Hid (Y < ((2 ^ (21 - i) : Nat) : Int)) ∧ wr = w')
    case atStart => exact ⟨0, x, y, rfl, by go_num, by omega, by omega, RR.out, (show Hid _ from by show _ < _; simp; omega), (show Hid _ from by show _ < _; simp; omega), rfl⟩
    case round =>
      obtain ⟨i, X, Y, rfl, rfl, hi, hg, HR, HX, HY, rfl⟩ := hrel
      by_cases hlt : i < 21
      · have y1 : (i : Int) < 21 := by omega
        have c7 := fun w => fade_any _ _ X Y w HR.out.fx.1 HR.out.fy.1 HR.out
        go_wp2_with (go_at_call 11; with_reducible refine (c7 _).mono ?_; rintro e w' ⟨rfl, rfl⟩)
        go_roundg (21 - (i + 1))
        case measure => omega
        case rel => exact ⟨i + 1, X / 2, Y / 2, rfl, by go_num, by omega, by omega, HR.out.fade, (show Hid _ from half_lt hlt HX.out), (show Hid _ from half_lt hlt HY.out), rfl⟩
      · have y1 : ¬ (i : Int) < 21 := by omega
        obtain rfl : i = 21 := by omega
        have z1 := HX.out
        have z2 := HY.out
        have z3 := HR.out.x0
        have z4 := HR.out.y0
        simp at z1 z2
        obtain rfl : X = 0 := by omega
        obtain rfl : Y = 0 := by omega
        have o1 : (FloatKind.f64.format.order (floatOfInt .f64 0) 0 == some .eq) = true := is_eq (FI_of_int 0 (by decide)) FI_zero rfl
        clear z1 z2 z3 z4 HX HY HR hg
        go_wp2_with (go_at_call 12; with_reducible refine (told_any _).mono ?_; rintro e w2 ⟨rfl, g9⟩)
        go_ret
        exact ⟨rfl, g9⟩
  | true =>
    rw [hR] at c5
    have R2 : RH (x + p) (y + q) := by
      simp only [isC, Bool.and_eq_true, decide_eq_true_eq] at hR
      exact ⟨by omega, by omega, by omega, by omega⟩
    have c8 := fun w => fade_any _ _ (x + p) (y + q) w FY1 FY2 R2
    have o1 := ord_gt R.fade.fx.1 R2.fade.fx.1 (by omega)
    have o2 := ord_gt R.fade.fy.1 R2.fade.fy.1 (by omega)
    clear hR R FY1 FY2 R2
    go_enter Try.func3, Try.ntmps3
    go_wp2_with (first | (go_at_call 6; with_reducible refine (c1 _).mono ?_; rintro e w' ⟨rfl, rfl⟩) | (go_at_call 7; with_reducible refine (c2 _).mono ?_; rintro e w' ⟨rfl, rfl⟩) | (go_at_call 9; with_reducible refine (c3 _).mono ?_; rintro e w' ⟨rfl, rfl⟩) | (go_at_call 8; with_reducible refine (c4 _).mono ?_; rintro e w' ⟨rfl, rfl⟩) | (go_at_call 10; with_reducible refine (c5 _).mono ?_; rintro e w' ⟨rfl, rfl⟩) | (go_at_call 11; with_reducible refine (c6 _).mono ?_; rintro e w' ⟨rfl, rfl⟩) | (go_at_call 11; with_reducible refine (c8 _).mono ?_; rintro e w' ⟨rfl, rfl⟩))
    clear c1 c2 c3 c4 c5 c6 c8 e1 e2 e3 e4 o1 o2
    go_loopg [11, 15] 21 (fun g v11 v15 wr => ∃ (i : Nat) (X Y : Int), v11 = .complex .f64 (floatOfInt .f64 X) (floatOfInt .f64 Y) ∧ v15 = .int .i64 i ∧ i ≤ 21 ∧ 21 - i ≤ g ∧ Hid (RH X Y) ∧ Hid (X < ((2 ^ (21 - i) : Nat) : Int)) ∧ Hid (Y < ((2 ^ (21 - i) : Nat) : Int)) ∧ wr = w')
    case atStart => exact ⟨0, x, y, rfl, by go_num, by omega, by omega, RR.out, (show Hid _ from by show _ < _; simp; omega), (show Hid _ from by show _ < _; simp; omega), rfl⟩
    case round =>
      obtain ⟨i, X, Y, rfl, rfl, hi, hg, HR, HX, HY, rfl⟩ := hrel
      by_cases hlt : i < 21
      · have y1 : (i : Int) < 21 := by omega
        have c7 := fun w => fade_any _ _ X Y w HR.out.fx.1 HR.out.fy.1 HR.out
        go_wp2_with (go_at_call 11; with_reducible refine (c7 _).mono ?_; rintro e w' ⟨rfl, rfl⟩)
        go_roundg (21 - (i + 1))
        case measure => omega
        case rel => exact ⟨i + 1, X / 2, Y / 2, rfl, by go_num, by omega, by omega, HR.out.fade, (show Hid _ from half_lt hlt HX.out), (show Hid _ from half_lt hlt HY.out), rfl⟩
      · have y1 : ¬ (i : Int) < 21 := by omega
        obtain rfl : i = 21 := by omega
        have z1 := HX.out
        have z2 := HY.out
        have z3 := HR.out.x0
        have z4 := HR.out.y0
        simp at z1 z2
        obtain rfl : X = 0 := by omega
        obtain rfl : Y = 0 := by omega
        have o1 : (FloatKind.f64.format.order (floatOfInt .f64 0) 0 == some .eq) = true := is_eq (FI_of_int 0 (by decide)) FI_zero rfl
        clear z1 z2 z3 z4 HX HY HR hg
        go_wp2_with (go_at_call 12; with_reducible refine (told_any _).mono ?_; rintro e w2 ⟨rfl, g9⟩)
        go_ret
        exact ⟨rfl, g9⟩

end Go.Proofs.Ytpiekhiamdknjaa
