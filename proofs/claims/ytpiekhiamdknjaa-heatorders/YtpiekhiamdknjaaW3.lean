/- The walks of gauss's faces over whole small numbers, and of told: Of, Mul, Add, Norm, Div, Turn, Less. -/
import Derived.Test.YtpiekhiamdknjaaW2
namespace Go.Proofs.Ytpiekhiamdknjaa
open Go.RowKit

/-- The word b stands for n, and is not -0. -/
def FC (b : Nat) (n : Int) : Prop := FI b n ∧ (n = 0 → b = 0)
theorem FC.fi {b : Nat} {n : Int} (h : FC b n) : FI b n := h.1
theorem FC_pz {a : Nat} {x : Int} (h : FI a x) : FC (pz x a) x := ⟨FI_pz h, fun e => by rw [e]; rfl⟩
theorem FC_of_int (n : Int) (h : n.natAbs < 9007199254740992) : FC (floatOfInt .f64 n) n := ⟨FI_of_int n h, fun e => by rw [e]; decide⟩
theorem FC_eq {a : Nat} {x y : Int} (h : FC a x) (e : x = y) : FC a y := e ▸ h

theorem Grown_trans {a b c : World} (h : Grown a b) (k : Grown b c) : Grown a c :=
  ⟨World.keptBut_trans h.1 k.1, fun p => (k.2.1 p).trans (h.2.1 p), Nat.le_trans h.2.2 k.2.2⟩

theorem refuse2_new (a b c d : Nat) (x y u v : Int) (w : World) (ha : FI a x) (hb : FI b y) (hc : FI c u) (hd : FI d v)
    (hx : x.natAbs ≤ 16777216) (hy : y.natAbs ≤ 16777216) (hu : u.natAbs ≤ 16777216) (hv : v.natAbs ≤ 16777216) :
    Calls Try.prog 36 #[.slice (some ⟨w.heap.size, 0, none⟩) 2 2] (w.alloc (.cells #[.complex .f64 a b, .complex .f64 c d] 22)) fun e w' => e = .returned (.int .i64 0) ∧ w' = w.alloc (.cells #[.complex .f64 a b, .complex .f64 c d] 22) :=
  (refuse2_any w.heap.size a b c d x y u v _ ha hb hc hd hx hy hu hv (by simp [go_sem]) (by simp [go_sem])).mono fun _ _ ⟨h1, h2⟩ => ⟨h1, h2.symm⟩

theorem refuse1_new (a b : Nat) (x y : Int) (w : World) (ha : FI a x) (hb : FI b y)
    (hx : x.natAbs ≤ 16777216) (hy : y.natAbs ≤ 16777216) :
    Calls Try.prog 36 #[.slice (some ⟨w.heap.size, 0, none⟩) 1 1] (w.alloc (.cells #[.complex .f64 a b] 22)) fun e w' => e = .returned (.int .i64 0) ∧ w' = w.alloc (.cells #[.complex .f64 a b] 22) :=
  (refuse1_any w.heap.size a b x y _ ha hb hx hy (by simp [go_sem])).mono fun _ _ ⟨h1, h2⟩ => ⟨h1, h2.symm⟩

set_option maxHeartbeats 400000 in
theorem of_any (x y : Int) (w : World) (hx : x.natAbs ≤ 4503599627370496) (hy : y.natAbs ≤ 4503599627370496) :
    Calls Try.prog 27 #[.int .i64 x, .int .i64 y] w fun e w' => e = .returned (.tuple #[.complex .f64 (floatOfInt .f64 x) (floatOfInt .f64 y), .int .i64 0]) ∧ w' = w := by
  have c1 := fun w => isWhole_true _ _ w x y (FI_of_int x (by omega)) (FI_of_int y (by omega)) hx hy
  clear hx hy
  go_enter Try.func27, Try.ntmps27
  go_wp2_with (go_at_call 28; with_reducible refine (c1 _).mono ?_; rintro e w' ⟨rfl, rfl⟩)
  go_ret2
  exact ⟨rfl, rfl⟩

/-- Less, of parts. -/
def lessB (m n x u y v : Int) : Bool := decide (m < n ∨ (m = n ∧ (x < u ∨ (x = u ∧ y < v))))
theorem ret_bool {p q : Bool} (h : p = q) : Ending.returned (.bool p) = .returned (.bool q) := by rw [h]
theorem less1 {m n : Int} (x u y v : Int) (h : (m != n) = true) : decide (m < n) = lessB m n x u y v := by
  have : m ≠ n := by simpa using h
  unfold lessB; exact decide_eq_decide.2 (by omega)
theorem less2 {m n x u : Int} (y v : Int) (h : (m != n) = false) (h' : (!decide (x = u)) = true) : decide (x < u) = lessB m n x u y v := by
  have e : m = n := by simpa using h
  have : ¬ x = u := by simpa using h'
  unfold lessB; exact decide_eq_decide.2 (by omega)
theorem less3 {m n x u : Int} (y v : Int) (h : (m != n) = false) (h' : (!decide (x = u)) = false) : decide (y < v) = lessB m n x u y v := by
  have e : m = n := by simpa using h
  have : x = u := by simpa using h'
  unfold lessB; exact decide_eq_decide.2 (by omega)

set_option maxHeartbeats 400000 in
theorem less_any (a b c d : Nat) (x y u v : Int) (w : World) (ha : FI a x) (hb : FI b y) (hc : FI c u) (hd : FI d v)
    (hx : x.natAbs ≤ 16777216) (hy : y.natAbs ≤ 16777216) (hu : u.natAbs ≤ 16777216) (hv : v.natAbs ≤ 16777216) :
    Calls Try.prog 31 #[.complex .f64 a b, .complex .f64 c d] w fun e w' => e = .returned (.bool (lessB (x * x + y * y) (u * u + v * v) x u y v)) ∧ Grown w w' := by
  have c1 := fun w => refuse2_new a b c d x y u v w ha hb hc hd hx hy hu hv
  have c2 := fun w => norm_any a b w x y ha hb hx hy
  have c3 := fun w => norm_any c d w u v hc hd hu hv
  have o1 : (FloatKind.f64.format.order a c != some .eq) = !decide (x = u) := by rw [bne, ord_eq ha hc]
  have o2 := ord_lt ha hc
  have o3 := ord_lt hb hd
  clear hx hy hu hv ha hb hc hd
  generalize x * x + y * y = m at c2 ⊢
  generalize u * u + v * v = n at c3 ⊢
  go_enter Try.func31, Try.ntmps31
  go_wp2_with (first | (go_at_call 36; with_reducible refine (c1 _).mono ?_; rintro e w' ⟨rfl, rfl⟩) | (go_at_call 37; with_reducible refine (c2 _).mono ?_; rintro e w' ⟨rfl, rfl⟩) | (go_at_call 37; with_reducible refine (c3 _).mono ?_; rintro e w' ⟨rfl, rfl⟩))
  · go_ret
    exact ⟨ret_bool (less1 x u y v ‹_›), (Grown.refl _).alloc _ _⟩
  · go_ret
    exact ⟨ret_bool (less2 y v ‹_› ‹_›), (Grown.refl _).alloc _ _⟩
  · go_ret
    exact ⟨ret_bool (less3 y v ‹_› ‹_›), (Grown.refl _).alloc _ _⟩

theorem sq_ge (u : Int) : (u.natAbs : Int) ≤ u * u := by
  have h : u.natAbs ≤ u.natAbs * u.natAbs := Nat.le_mul_self _
  have e : ((u.natAbs * u.natAbs : Nat) : Int) = u * u := by rw [Int.natCast_mul]; exact Int.natAbs_mul_self
  omega

theorem dot_le {x y u v : Int} {A : Nat} (hx : x.natAbs ≤ A) (hy : y.natAbs ≤ A) : ((x * u + y * v).natAbs : Int) ≤ A * (u * u + v * v) := by
  have h1 : (x * u).natAbs ≤ A * u.natAbs := mul_le hx (Nat.le_refl _)
  have h2 : (y * v).natAbs ≤ A * v.natAbs := mul_le hy (Nat.le_refl _)
  have h3 : (A : Int) * u.natAbs ≤ A * (u * u) := Int.mul_le_mul_of_nonneg_left (sq_ge u) (by omega)
  have h4 : (A : Int) * v.natAbs ≤ A * (v * v) := Int.mul_le_mul_of_nonneg_left (sq_ge v) (by omega)
  have h5 : ((A * u.natAbs : Nat) : Int) = A * u.natAbs := Int.natCast_mul _ _
  have h6 : ((A * v.natAbs : Nat) : Int) = A * v.natAbs := Int.natCast_mul _ _
  rw [Int.mul_add]
  omega

theorem round_le {P n : Int} (hn : 0 < n) (h : (P.natAbs : Int) ≤ 16777216 * n) : ((2 * P + n) / (2 * n)).natAbs ≤ 16777217 := by
  have h1 : -16777217 ≤ (2 * P + n) / (2 * n) := (Int.le_ediv_iff_mul_le (by omega)).2 (by omega)
  have h2 : (2 * P + n) / (2 * n) < 16777218 := (Int.ediv_lt_iff_lt_mul (by omega)).2 (by omega)
  omega

theorem sq_pos {u v : Int} (h : ¬ (u = 0 ∧ v = 0)) : 0 < u * u + v * v := by
  have h1 := sq_ge u
  have h2 := sq_ge v
  omega

/-- The quotient's parts, the rest's parts (1.4). -/
def qre (x y u v : Int) : Int := (2 * (x * u + y * v) + (u * u + v * v)) / (2 * (u * u + v * v))
def qim (x y u v : Int) : Int := (2 * (y * u - x * v) + (u * u + v * v)) / (2 * (u * u + v * v))
def rre (x y u v : Int) : Int := x - (qre x y u v * u - qim x y u v * v)
def rim (x y u v : Int) : Int := y - (qre x y u v * v + qim x y u v * u)
theorem qre_le {x y u v : Int} (h : ¬ (u = 0 ∧ v = 0)) (hx : x.natAbs ≤ 16777216) (hy : y.natAbs ≤ 16777216) : (qre x y u v).natAbs ≤ 16777217 :=
  round_le (sq_pos h) (dot_le hx hy)
theorem qim_le {x y u v : Int} (h : ¬ (u = 0 ∧ v = 0)) (hx : x.natAbs ≤ 16777216) (hy : y.natAbs ≤ 16777216) : (qim x y u v).natAbs ≤ 16777217 := by
  refine round_le (sq_pos h) ?_
  have := dot_le (x := y) (y := -x) (u := u) (v := v) (A := 16777216) hy (by omega)
  rw [Int.neg_mul, ← Int.sub_eq_add_neg] at this
  exact this

theorem nabs_add {x y : Int} {A B C : Nat} (hx : x.natAbs ≤ A) (hy : y.natAbs ≤ B) (h : A + B ≤ C) : (x + y).natAbs ≤ C := by omega
theorem nabs_sub {x y : Int} {A B C : Nat} (hx : x.natAbs ≤ A) (hy : y.natAbs ≤ B) (h : A + B ≤ C) : (x - y).natAbs ≤ C := by omega
theorem nabs_le {x : Int} {A B : Nat} (hx : x.natAbs ≤ A) (h : A ≤ B) : x.natAbs ≤ B := Nat.le_trans hx h
theorem nabs_lt {x : Int} {A B : Nat} (hx : x.natAbs ≤ A) (h : A < B) : x.natAbs < B := Nat.lt_of_le_of_lt hx h
theorem nabs_neg {x y : Int} {A B : Nat} (hx : (x * y).natAbs ≤ A) (h : A < B) : (x * -y).natAbs < B := by
  rw [Int.mul_neg, Int.natAbs_neg]; exact Nat.lt_of_le_of_lt hx h
theorem int_of_nabs {x : Int} {A : Nat} (hx : x.natAbs ≤ A) : x ≤ A := by omega

/-- A number's parts, turned K times. -/
def tre (K : Nat) (x y : Int) : Int := match K with | 0 => x | 1 => -y | 2 => -x | _ => y
def tim (K : Nat) (x y : Int) : Int := match K with | 0 => y | 1 => x | 2 => -y | _ => -x

theorem FI_one : FI 4607182418800017408 1 := FI_const _ (by decide) (by decide)

theorem FI_turn {a b : Nat} {x y : Int} (ha : FI a x) (hb : FI b y) (hx : x.natAbs ≤ 16777216) (hy : y.natAbs ≤ 16777216) :
    ∃ re im, cMulBits a b 0 4607182418800017408 = some (re, im) ∧ FI re (-y) ∧ FI im x := by
  obtain ⟨re, im, h, h1, h2⟩ := FI_cmul ha hb FI_zero FI_one (by omega) (by omega) (by omega) (by omega)
  refine ⟨re, im, h, ?_, ?_⟩
  · have e : x * 0 - y * 1 = -y := by omega
    rwa [e] at h1
  · have e : x * 1 + y * 0 = x := by omega
    rwa [e] at h2

theorem FI_cast {a : Nat} {x y : Int} (h : FI a x) (e : x = y) : FI a y := e ▸ h

theorem turn_mod (k : Int) (K : Nat) (h : k % 4 = K) : (wrap64 (k.tmod 4 + 4)).tmod 4 = K := by
  have l1 := Int.lt_tmod_of_pos k (b := 4) (by omega)
  have l2 := Int.tmod_lt_of_pos k (b := 4) (by omega)
  rw [wrap64_id (by omega) (by omega)]
  have e2 := Int.tmod_eq_emod (a := k) (b := 4)
  have e3 : (k.tmod 4 + 4).tmod 4 = (k.tmod 4 + 4) % 4 := Int.tmod_eq_emod_of_nonneg (by omega)
  rw [e3, e2]
  split <;> simp <;> omega

end Go.Proofs.Ytpiekhiamdknjaa
