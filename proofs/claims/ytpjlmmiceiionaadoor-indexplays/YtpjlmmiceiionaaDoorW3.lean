/- The walks of gauss's faces over whole small numbers, and of told: Of, Mul, Add, Norm, Div, Turn, Less. -/
import Derived.Test.YtpjlmmiceiionaaDoorJ06
namespace Go.Proofs.YtpjlmmiceiionaaDoor
open Go.RowKit

/-- The word b stands for n, and is not -0. -/
def FC (b : Nat) (n : Int) : Prop := FI b n ∧ (n = 0 → b = 0)
theorem FC.fi {b : Nat} {n : Int} (h : FC b n) : FI b n := h.1
theorem FC_pz {a : Nat} {x : Int} (h : FI a x) : FC (pz x a) x := ⟨FI_pz h, fun e => by rw [e]; rfl⟩
theorem FC_of_int (n : Int) (h : n.natAbs < 9007199254740992) : FC (floatOfInt .f64 n) n := ⟨FI_of_int n h, fun e => by rw [e]; decide⟩
theorem FC_eq {a : Nat} {x y : Int} (h : FC a x) (e : x = y) : FC a y := e ▸ h

theorem Grown_trans {a b c : World} (h : Grown a b) (k : Grown b c) : Grown a c :=
  ⟨World.keptBut_trans h.1 k.1, fun p => (k.2.1 p).trans (h.2.1 p), Nat.le_trans h.2.2 k.2.2⟩

/-- Less, of parts. -/
def lessB (m n x u y v : Int) : Bool := decide (m < n ∨ (m = n ∧ (x < u ∨ (x = u ∧ y < v))))
theorem ret_bool {p q : Bool} (h : p = q) : Ending.returned (.bool p) = .returned (.bool q) := by rw [h]
theorem less1 {m n : Int} (x u y v : Int) (h : (m != n) = true) : decide (m < n) = lessB m n x u y v := by
  have : m ≠ n := by simpa using h
  unfold lessB; exact decide_eq_decide.2 (by omega)
theorem less2 {m n x u : Int} (y v : Int) (h : (m != n) = false) (h' : (!decide (x = u)) = true) : decide (x < u) = lessB m n x u y v := by
  have e : m = n := by simpa using h
  have : ¬ x = u := by simpa using h'
  unfold lessB; exact decide_eq_decide.2 (by omega)
theorem less3 {m n x u : Int} (y v : Int) (h : (m != n) = false) (h' : (!decide (x = u)) = false) : decide (y < v) = lessB m n x u y v := by
  have e : m = n := by simpa using h
  have : x = u := by simpa using h'
  unfold lessB; exact decide_eq_decide.2 (by omega)

theorem sq_ge (u : Int) : (u.natAbs : Int) ≤ u * u := by
  have h : u.natAbs ≤ u.natAbs * u.natAbs := Nat.le_mul_self _
  have e : ((u.natAbs * u.natAbs : Nat) : Int) = u * u := by rw [Int.natCast_mul]; exact Int.natAbs_mul_self
  omega

theorem dot_le {x y u v : Int} {A : Nat} (hx : x.natAbs ≤ A) (hy : y.natAbs ≤ A) : ((x * u + y * v).natAbs : Int) ≤ A * (u * u + v * v) := by
  have h1 : (x * u).natAbs ≤ A * u.natAbs := mul_le hx (Nat.le_refl _)
  have h2 : (y * v).natAbs ≤ A * v.natAbs := mul_le hy (Nat.le_refl _)
  have h3 : (A : Int) * u.natAbs ≤ A * (u * u) := Int.mul_le_mul_of_nonneg_left (sq_ge u) (by omega)
  have h4 : (A : Int) * v.natAbs ≤ A * (v * v) := Int.mul_le_mul_of_nonneg_left (sq_ge v) (by omega)
  have h5 : ((A * u.natAbs : Nat) : Int) = A * u.natAbs := Int.natCast_mul _ _
  have h6 : ((A * v.natAbs : Nat) : Int) = A * v.natAbs := Int.natCast_mul _ _
  rw [Int.mul_add]
  omega

theorem round_le {P n : Int} (hn : 0 < n) (h : (P.natAbs : Int) ≤ 16777216 * n) : ((2 * P + n) / (2 * n)).natAbs ≤ 16777217 := by
  have h1 : -16777217 ≤ (2 * P + n) / (2 * n) := (Int.le_ediv_iff_mul_le (by omega)).2 (by omega)
  have h2 : (2 * P + n) / (2 * n) < 16777218 := (Int.ediv_lt_iff_lt_mul (by omega)).2 (by omega)
  omega

theorem sq_pos {u v : Int} (h : ¬ (u = 0 ∧ v = 0)) : 0 < u * u + v * v := by
  have h1 := sq_ge u
  have h2 := sq_ge v
  omega

/-- The quotient's parts, the rest's parts (1.4). -/
def qre (x y u v : Int) : Int := (2 * (x * u + y * v) + (u * u + v * v)) / (2 * (u * u + v * v))
def qim (x y u v : Int) : Int := (2 * (y * u - x * v) + (u * u + v * v)) / (2 * (u * u + v * v))
def rre (x y u v : Int) : Int := x - (qre x y u v * u - qim x y u v * v)
def rim (x y u v : Int) : Int := y - (qre x y u v * v + qim x y u v * u)
theorem qre_le {x y u v : Int} (h : ¬ (u = 0 ∧ v = 0)) (hx : x.natAbs ≤ 16777216) (hy : y.natAbs ≤ 16777216) : (qre x y u v).natAbs ≤ 16777217 :=
  round_le (sq_pos h) (dot_le hx hy)
theorem qim_le {x y u v : Int} (h : ¬ (u = 0 ∧ v = 0)) (hx : x.natAbs ≤ 16777216) (hy : y.natAbs ≤ 16777216) : (qim x y u v).natAbs ≤ 16777217 := by
  refine round_le (sq_pos h) ?_
  have := dot_le (x := y) (y := -x) (u := u) (v := v) (A := 16777216) hy (by omega)
  rw [Int.neg_mul, ← Int.sub_eq_add_neg] at this
  exact this

theorem nabs_add {x y : Int} {A B C : Nat} (hx : x.natAbs ≤ A) (hy : y.natAbs ≤ B) (h : A + B ≤ C) : (x + y).natAbs ≤ C := by omega
theorem nabs_sub {x y : Int} {A B C : Nat} (hx : x.natAbs ≤ A) (hy : y.natAbs ≤ B) (h : A + B ≤ C) : (x - y).natAbs ≤ C := by omega
theorem nabs_le {x : Int} {A B : Nat} (hx : x.natAbs ≤ A) (h : A ≤ B) : x.natAbs ≤ B := Nat.le_trans hx h
theorem nabs_lt {x : Int} {A B : Nat} (hx : x.natAbs ≤ A) (h : A < B) : x.natAbs < B := Nat.lt_of_le_of_lt hx h
theorem nabs_neg {x y : Int} {A B : Nat} (hx : (x * y).natAbs ≤ A) (h : A < B) : (x * -y).natAbs < B := by
  rw [Int.mul_neg, Int.natAbs_neg]; exact Nat.lt_of_le_of_lt hx h
theorem int_of_nabs {x : Int} {A : Nat} (hx : x.natAbs ≤ A) : x ≤ A := by omega

/-- A number's parts, turned K times. -/
def tre (K : Nat) (x y : Int) : Int := match K with | 0 => x | 1 => -y | 2 => -x | _ => y
def tim (K : Nat) (x y : Int) : Int := match K with | 0 => y | 1 => x | 2 => -y | _ => -x

theorem FI_one : FI 4607182418800017408 1 := FI_const _ (by decide) (by decide)

theorem FI_turn {a b : Nat} {x y : Int} (ha : FI a x) (hb : FI b y) (hx : x.natAbs ≤ 4503599627370495) (hy : y.natAbs ≤ 4503599627370495) :
    ∃ re im, cMulBits a b 0 4607182418800017408 = some (re, im) ∧ FI re (-y) ∧ FI im x := by
  obtain ⟨re, im, h, h1, h2⟩ := FI_cmul ha hb FI_zero FI_one (by omega) (by omega) (by omega) (by omega)
  refine ⟨re, im, h, ?_, ?_⟩
  · have e : x * 0 - y * 1 = -y := by omega
    rwa [e] at h1
  · have e : x * 1 + y * 0 = x := by omega
    rwa [e] at h2

theorem FI_cast {a : Nat} {x y : Int} (h : FI a x) (e : x = y) : FI a y := e ▸ h

theorem turn_mod (k : Int) (K : Nat) (h : k % 4 = K) : (wrap64 (k.tmod 4 + 4)).tmod 4 = K := by
  have l1 := Int.lt_tmod_of_pos k (b := 4) (by omega)
  have l2 := Int.tmod_lt_of_pos k (b := 4) (by omega)
  rw [wrap64_id (by omega) (by omega)]
  have e2 := Int.tmod_eq_emod (a := k) (b := 4)
  have e3 : (k.tmod 4 + 4).tmod 4 = (k.tmod 4 + 4) % 4 := Int.tmod_eq_emod_of_nonneg (by omega)
  rw [e3, e2]
  split <;> simp <;> omega

set_option maxHeartbeats 1000000 in
theorem turn0 (a b : Nat) (x y k : Int) (w : World) (ha : FI a x) (hb : FI b y) (hx : x.natAbs ≤ 4503599627370495) (hy : y.natAbs ≤ 4503599627370495) (hk : k % 4 = (0 : Nat)) :
    Calls Tryd.prog 44 #[.complex .f64 a b, .int .i64 k] w fun e w' => ∃ re im, e = .returned (.complex .f64 re im) ∧ FC re (tre 0 x y) ∧ FC im (tim 0 x y) ∧ w' = w := by
  have hK : (wrap64 (k.tmod 4 + 4)).tmod 4 = 0 := turn_mod k 0 hk
  have c1 := fun w => isWhole_true a b w x y ha hb (by omega) (by omega)
  have c2 := fun w => clean_any a b w _ _ ha hb
  have r1 : FC (pz (x) a) (tre 0 x y) := FC_pz ha
  have r2 : FC (pz (y) b) (tim 0 x y) := FC_pz hb
  clear hk ha hb hx hy 
  go_enter Tryd.func44, Tryd.ntmps44
  go_wp2_with (go_at_call 62; with_reducible refine (c1 _).mono ?_; rintro e w' ⟨rfl, rfl⟩)
  refine wp_loop_rounds 1 ?_
  rw [rounds_succ]; go_wp2_with (go_at_call 63; with_reducible refine (c2 _).mono ?_; rintro e w' ⟨rfl, rfl⟩)
  go_ret
  exact ⟨_, _, rfl, r1, r2, rfl⟩

set_option maxHeartbeats 1000000 in
theorem turn1 (a b : Nat) (x y k : Int) (w : World) (ha : FI a x) (hb : FI b y) (hx : x.natAbs ≤ 4503599627370495) (hy : y.natAbs ≤ 4503599627370495) (hk : k % 4 = (1 : Nat)) :
    Calls Tryd.prog 44 #[.complex .f64 a b, .int .i64 k] w fun e w' => ∃ re im, e = .returned (.complex .f64 re im) ∧ FC re (tre 1 x y) ∧ FC im (tim 1 x y) ∧ w' = w := by
  have hK : (wrap64 (k.tmod 4 + 4)).tmod 4 = 1 := turn_mod k 1 hk
  have c1 := fun w => isWhole_true a b w x y ha hb (by omega) (by omega)
  obtain ⟨a1, b1, hm1, ha1, hb1⟩ := FI_turn ha hb (by omega) (by omega)
  have hM1 := fun w => run_complex_mul (P := Tryd.prog) w 51 _ _ _ _ _ _ hm1
  have c2 := fun w => clean_any a1 b1 w _ _ ha1 hb1
  have r1 : FC (pz (-y) a1) (tre 1 x y) := FC_pz ha1
  have r2 : FC (pz (x) b1) (tim 1 x y) := FC_pz hb1
  clear hk ha hb hx hy hm1 ha1 hb1
  go_enter Tryd.func44, Tryd.ntmps44
  go_wp2_with (go_at_call 62; with_reducible refine (c1 _).mono ?_; rintro e w' ⟨rfl, rfl⟩)
  refine wp_loop_rounds 2 ?_
  rw [rounds_succ]; go_wp2_with (go_at_call 63; with_reducible refine (c2 _).mono ?_; rintro e w' ⟨rfl, rfl⟩)
  rw [rounds_succ]; go_wp2_with (go_at_call 63; with_reducible refine (c2 _).mono ?_; rintro e w' ⟨rfl, rfl⟩)
  go_ret
  exact ⟨_, _, rfl, r1, r2, rfl⟩

set_option maxHeartbeats 1000000 in
theorem turn2 (a b : Nat) (x y k : Int) (w : World) (ha : FI a x) (hb : FI b y) (hx : x.natAbs ≤ 4503599627370495) (hy : y.natAbs ≤ 4503599627370495) (hk : k % 4 = (2 : Nat)) :
    Calls Tryd.prog 44 #[.complex .f64 a b, .int .i64 k] w fun e w' => ∃ re im, e = .returned (.complex .f64 re im) ∧ FC re (tre 2 x y) ∧ FC im (tim 2 x y) ∧ w' = w := by
  have hK : (wrap64 (k.tmod 4 + 4)).tmod 4 = 2 := turn_mod k 2 hk
  have c1 := fun w => isWhole_true a b w x y ha hb (by omega) (by omega)
  obtain ⟨a1, b1, hm1, ha1, hb1⟩ := FI_turn ha hb (by omega) (by omega)
  have hM1 := fun w => run_complex_mul (P := Tryd.prog) w 51 _ _ _ _ _ _ hm1
  obtain ⟨a2, b2, hm2, ha2, hb2⟩ := FI_turn ha1 hb1 (by omega) (by omega)
  have hM2 := fun w => run_complex_mul (P := Tryd.prog) w 51 _ _ _ _ _ _ hm2
  have c2 := fun w => clean_any a2 b2 w _ _ ha2 hb2
  have r1 : FC (pz (-x) a2) (tre 2 x y) := FC_pz ha2
  have r2 : FC (pz (-y) b2) (tim 2 x y) := FC_pz hb2
  clear hk ha hb hx hy hm1 ha1 hb1 hm2 ha2 hb2
  go_enter Tryd.func44, Tryd.ntmps44
  go_wp2_with (go_at_call 62; with_reducible refine (c1 _).mono ?_; rintro e w' ⟨rfl, rfl⟩)
  refine wp_loop_rounds 3 ?_
  rw [rounds_succ]; go_wp2_with (go_at_call 63; with_reducible refine (c2 _).mono ?_; rintro e w' ⟨rfl, rfl⟩)
  rw [rounds_succ]; go_wp2_with (go_at_call 63; with_reducible refine (c2 _).mono ?_; rintro e w' ⟨rfl, rfl⟩)
  rw [rounds_succ]; go_wp2_with (go_at_call 63; with_reducible refine (c2 _).mono ?_; rintro e w' ⟨rfl, rfl⟩)
  go_ret
  exact ⟨_, _, rfl, r1, r2, rfl⟩

set_option maxHeartbeats 1000000 in
theorem turn3 (a b : Nat) (x y k : Int) (w : World) (ha : FI a x) (hb : FI b y) (hx : x.natAbs ≤ 4503599627370495) (hy : y.natAbs ≤ 4503599627370495) (hk : k % 4 = (3 : Nat)) :
    Calls Tryd.prog 44 #[.complex .f64 a b, .int .i64 k] w fun e w' => ∃ re im, e = .returned (.complex .f64 re im) ∧ FC re (tre 3 x y) ∧ FC im (tim 3 x y) ∧ w' = w := by
  have hK : (wrap64 (k.tmod 4 + 4)).tmod 4 = 3 := turn_mod k 3 hk
  have c1 := fun w => isWhole_true a b w x y ha hb (by omega) (by omega)
  obtain ⟨a1, b1, hm1, ha1, hb1⟩ := FI_turn ha hb (by omega) (by omega)
  have hM1 := fun w => run_complex_mul (P := Tryd.prog) w 51 _ _ _ _ _ _ hm1
  obtain ⟨a2, b2, hm2, ha2, hb2⟩ := FI_turn ha1 hb1 (by omega) (by omega)
  have hM2 := fun w => run_complex_mul (P := Tryd.prog) w 51 _ _ _ _ _ _ hm2
  obtain ⟨a3, b3, hm3, ha3, hb3⟩ := FI_turn ha2 hb2 (by omega) (by omega)
  have hM3 := fun w => run_complex_mul (P := Tryd.prog) w 51 _ _ _ _ _ _ hm3
  rw [Int.neg_neg] at ha3
  have c2 := fun w => clean_any a3 b3 w _ _ ha3 hb3
  have r1 : FC (pz (y) a3) (tre 3 x y) := FC_pz ha3
  have r2 : FC (pz (-x) b3) (tim 3 x y) := FC_pz hb3
  clear hk ha hb hx hy hm1 ha1 hb1 hm2 ha2 hb2 hm3 ha3 hb3
  go_enter Tryd.func44, Tryd.ntmps44
  go_wp2_with (go_at_call 62; with_reducible refine (c1 _).mono ?_; rintro e w' ⟨rfl, rfl⟩)
  refine wp_loop_rounds 4 ?_
  rw [rounds_succ]; go_wp2_with (go_at_call 63; with_reducible refine (c2 _).mono ?_; rintro e w' ⟨rfl, rfl⟩)
  rw [rounds_succ]; go_wp2_with (go_at_call 63; with_reducible refine (c2 _).mono ?_; rintro e w' ⟨rfl, rfl⟩)
  rw [rounds_succ]; go_wp2_with (go_at_call 63; with_reducible refine (c2 _).mono ?_; rintro e w' ⟨rfl, rfl⟩)
  rw [rounds_succ]; go_wp2_with (go_at_call 63; with_reducible refine (c2 _).mono ?_; rintro e w' ⟨rfl, rfl⟩)
  go_ret
  exact ⟨_, _, rfl, r1, r2, rfl⟩

theorem turn_wide (K : Nat) (a b : Nat) (x y k : Int) (w : World) (ha : FI a x) (hb : FI b y) (hx : x.natAbs ≤ 4503599627370495) (hy : y.natAbs ≤ 4503599627370495) (hk : k % 4 = K) :
    Calls Tryd.prog 44 #[.complex .f64 a b, .int .i64 k] w fun e w' => ∃ re im, e = .returned (.complex .f64 re im) ∧ FC re (tre K x y) ∧ FC im (tim K x y) ∧ w' = w := by
  have : K = 0 ∨ K = 1 ∨ K = 2 ∨ K = 3 := by omega
  rcases this with rfl | rfl | rfl | rfl
  · exact turn0 a b x y k w ha hb hx hy hk
  · exact turn1 a b x y k w ha hb hx hy hk
  · exact turn2 a b x y k w ha hb hx hy hk
  · exact turn3 a b x y k w ha hb hx hy hk

theorem turn_any (K : Nat) (a b : Nat) (x y k : Int) (w : World) (ha : FI a x) (hb : FI b y) (hx : x.natAbs ≤ 16777216) (hy : y.natAbs ≤ 16777216) (hk : k % 4 = K) :
    Calls Tryd.prog 44 #[.complex .f64 a b, .int .i64 k] w fun e w' => ∃ re im, e = .returned (.complex .f64 re im) ∧ FC re (tre K x y) ∧ FC im (tim K x y) ∧ w' = w :=
  turn_wide K a b x y k w ha hb (Nat.le_trans hx (by decide)) (Nat.le_trans hy (by decide)) hk

end Go.Proofs.YtpjlmmiceiionaaDoor
