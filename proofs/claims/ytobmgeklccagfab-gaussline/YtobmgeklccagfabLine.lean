/- The walk of GaussLine: Less is an order. -/
import Derived.Test.YtobmgeklccagfabNums
namespace Go.Proofs.Ytobmgeklccagfab
open Go.RowKit

theorem and3 (n : Int) : bits .and .i64 n 3 = n % 4 := by
  have hm : (BitVec.ofInt 64 3).toNat = 2 ^ 2 - 1 := by decide
  have key : (BitVec.ofInt 64 n &&& BitVec.ofInt 64 3).toNat = (n % ((2 ^ 64 : Nat) : Int)).toNat % 2 ^ 2 := by
    rw [BitVec.toNat_and, BitVec.toNat_ofInt, hm, Nat.and_two_pow_sub_one_eq_mod]
  show IntKind.i64.wrap ((BitVec.ofInt 64 n &&& BitVec.ofInt 64 3).toNat : Nat) = n % 4
  rw [key, IntKind.wrap_i64]
  omega

/-- One of the few parts. -/
def fp (n : Int) : Int := n % 4 - 2
theorem fp_le (n : Int) : (fp n).natAbs ≤ 8388608 := by unfold fp; omega
theorem fp_eq (n : Int) : wrap64 (bits .and .i64 n 3 - 2) = fp n := by
  rw [and3]; unfold fp; exact wrap64_id (by omega) (by omega)

/-- Less of two numbers by their parts. -/
def ls (x y u v : Int) : Bool := lessB (x * x + y * y) (u * u + v * v) x u y v
theorem less_at (a b c d : Nat) (x y u v : Int) (w : World) (r : Bool) (ha : FI a x) (hb : FI b y) (hc : FI c u) (hd : FI d v)
    (hx : x.natAbs ≤ 16777216) (hy : y.natAbs ≤ 16777216) (hu : u.natAbs ≤ 16777216) (hv : v.natAbs ≤ 16777216) (hr : ls x y u v = r) :
    Calls Try.prog 15 #[.complex .f64 a b, .complex .f64 c d] w fun e w' => e = .returned (.bool r) ∧ Grown w w' := by
  have := less_any a b c d x y u v w ha hb hc hd hx hy hu hv
  unfold ls at hr
  rwa [hr] at this

theorem ls_cases (x y u v : Int) : (ls x y u v = true ∧ ls u v x y = false ∧ ¬ (x = u ∧ y = v)) ∨ (ls x y u v = false ∧ ls u v x y = true ∧ ¬ (x = u ∧ y = v)) ∨ (ls x y u v = false ∧ ls u v x y = false ∧ (x = u ∧ y = v)) := by
  unfold ls
  have e : (x = u ∧ y = v) → x * x + y * y = u * u + v * v := fun ⟨h1, h2⟩ => by rw [h1, h2]
  generalize x * x + y * y = m at *
  generalize u * u + v * v = n at *
  unfold lessB
  simp only [decide_eq_true_eq, decide_eq_false_iff_not]
  by_cases c : x = u ∧ y = v
  · have := e c; omega
  · omega
theorem ls_trans {x y u v p q : Int} (h1 : ls x y u v = true) (h2 : ls u v p q = true) : ls x y p q = true := by
  unfold ls at *
  generalize x * x + y * y = m at *
  generalize u * u + v * v = n at *
  generalize p * p + q * q = o at *
  unfold lessB at *
  simp only [decide_eq_true_eq] at *
  omega
theorem ls_self (x y : Int) : ls x y x y = false := by
  unfold ls
  generalize x * x + y * y = m at *
  unfold lessB
  simp

theorem eq_at {a b c d : Nat} {x y u v : Int} (ha : FI a x) (hb : FI b y) (hc : FI c u) (hd : FI d v) (h : x = u ∧ y = v) :
    ((FloatKind.f64.format.order a c == some .eq) && (FloatKind.f64.format.order b d == some .eq)) = true := by
  rw [ord_eq ha hc, ord_eq hb hd]; simp [h]
theorem ne_at {a b c d : Nat} {x y u v : Int} (ha : FI a x) (hb : FI b y) (hc : FI c u) (hd : FI d v) (h : ¬ (x = u ∧ y = v)) :
    ((FloatKind.f64.format.order a c == some .eq) && (FloatKind.f64.format.order b d == some .eq)) = false := by
  rw [ord_eq ha hc, ord_eq hb hd]; simpa using h

set_option maxRecDepth 100000 in
set_option maxHeartbeats 4000000 in
theorem line_all_lt (a b c d e f : Int) (w : World) (hl : ls (sp a) (sp b) (sp c) (sp d) = true) (hg : ls (sp c) (sp d) (sp a) (sp b) = false) (he : ¬ (sp a = sp c ∧ sp b = sp d)) (hh : ls (sp c) (sp d) (sp e) (sp f) = true) :
    Calls Try.prog 4 #[.int .i64 a, .int .i64 b, .int .i64 c, .int .i64 d, .int .i64 e, .int .i64 f, .bool false] w fun e w' => e = .returned (.bool true) ∧ Grown w w' := by
  have ba := nabs_le (B := 16777216) (sp_le a) (by decide)
  have bb := nabs_le (B := 16777216) (sp_le b) (by decide)
  have bc := nabs_le (B := 16777216) (sp_le c) (by decide)
  have bd := nabs_le (B := 16777216) (sp_le d) (by decide)
  have be := nabs_le (B := 16777216) (sp_le e) (by decide)
  have bf := nabs_le (B := 16777216) (sp_le f) (by decide)
  go_enter Try.func4, Try.ntmps4
  go_wp2_with fail
  with_reducible refine (small_any _ _ _).mono ?_; rintro e1 w1 ⟨x1, x2, rfl, X1, X2, rfl⟩; go_wp2_with fail
  with_reducible refine (small_any _ _ _).mono ?_; rintro e1 w1 ⟨y1, y2, rfl, Y1, Y2, rfl⟩; go_wp2_with fail
  with_reducible refine (small_any _ _ _).mono ?_; rintro e1 w1 ⟨z1, z2, rfl, Z1, Z2, rfl⟩; go_wp2_with fail
  generalize sp a = A at *
  generalize sp b = B at *
  generalize sp c = C at *
  generalize sp d = D at *
  generalize sp e = E at *
  generalize sp f = F at *
  have o1 := ne_at X1.fi X2.fi Y1.fi Y2.fi he
  with_reducible refine (less_at _ _ _ _ A B C D _ true X1.fi X2.fi Y1.fi Y2.fi ba bb bc bd hl).mono ?_; rintro e1 w2 ⟨rfl, g1⟩; go_wp2_with fail
  with_reducible refine (less_at _ _ _ _ C D A B _ false Y1.fi Y2.fi X1.fi X2.fi bc bd ba bb hg).mono ?_; rintro e1 w3 ⟨rfl, g2⟩; go_wp2_with fail
  with_reducible refine (told_any _).mono ?_; rintro e1 w4 ⟨rfl, g3⟩; go_wp2_with fail
  with_reducible refine (less_at _ _ _ _ C D E F _ true Y1.fi Y2.fi Z1.fi Z2.fi bc bd be bf hh).mono ?_; rintro e1 w5 ⟨rfl, g4⟩; go_wp2_with fail
  with_reducible refine (less_at _ _ _ _ A B E F _ true X1.fi X2.fi Z1.fi Z2.fi ba bb be bf (ls_trans hl hh)).mono ?_; rintro e1 w6 ⟨rfl, g5⟩; go_wp2_with fail
  with_reducible refine (less_at _ _ _ _ A B A B _ false X1.fi X2.fi X1.fi X2.fi ba bb ba bb (ls_self A B)).mono ?_; rintro e1 w7 ⟨rfl, g6⟩
  go_wp2
  go_ret
  exact ⟨rfl, (Grown_trans g1 (Grown_trans g2 (Grown_trans g3 (Grown_trans g4 (Grown_trans g5 g6)))))⟩

set_option maxRecDepth 100000 in
set_option maxHeartbeats 4000000 in
theorem line_all_ln (a b c d e f : Int) (w : World) (hl : ls (sp a) (sp b) (sp c) (sp d) = true) (hg : ls (sp c) (sp d) (sp a) (sp b) = false) (he : ¬ (sp a = sp c ∧ sp b = sp d)) (hh : ls (sp c) (sp d) (sp e) (sp f) = false) :
    Calls Try.prog 4 #[.int .i64 a, .int .i64 b, .int .i64 c, .int .i64 d, .int .i64 e, .int .i64 f, .bool false] w fun e w' => e = .returned (.bool true) ∧ Grown w w' := by
  have ba := nabs_le (B := 16777216) (sp_le a) (by decide)
  have bb := nabs_le (B := 16777216) (sp_le b) (by decide)
  have bc := nabs_le (B := 16777216) (sp_le c) (by decide)
  have bd := nabs_le (B := 16777216) (sp_le d) (by decide)
  have be := nabs_le (B := 16777216) (sp_le e) (by decide)
  have bf := nabs_le (B := 16777216) (sp_le f) (by decide)
  go_enter Try.func4, Try.ntmps4
  go_wp2_with fail
  with_reducible refine (small_any _ _ _).mono ?_; rintro e1 w1 ⟨x1, x2, rfl, X1, X2, rfl⟩; go_wp2_with fail
  with_reducible refine (small_any _ _ _).mono ?_; rintro e1 w1 ⟨y1, y2, rfl, Y1, Y2, rfl⟩; go_wp2_with fail
  with_reducible refine (small_any _ _ _).mono ?_; rintro e1 w1 ⟨z1, z2, rfl, Z1, Z2, rfl⟩; go_wp2_with fail
  generalize sp a = A at *
  generalize sp b = B at *
  generalize sp c = C at *
  generalize sp d = D at *
  generalize sp e = E at *
  generalize sp f = F at *
  have o1 := ne_at X1.fi X2.fi Y1.fi Y2.fi he
  with_reducible refine (less_at _ _ _ _ A B C D _ true X1.fi X2.fi Y1.fi Y2.fi ba bb bc bd hl).mono ?_; rintro e1 w2 ⟨rfl, g1⟩; go_wp2_with fail
  with_reducible refine (less_at _ _ _ _ C D A B _ false Y1.fi Y2.fi X1.fi X2.fi bc bd ba bb hg).mono ?_; rintro e1 w3 ⟨rfl, g2⟩; go_wp2_with fail
  with_reducible refine (told_any _).mono ?_; rintro e1 w4 ⟨rfl, g3⟩; go_wp2_with fail
  with_reducible refine (less_at _ _ _ _ C D E F _ false Y1.fi Y2.fi Z1.fi Z2.fi bc bd be bf hh).mono ?_; rintro e1 w5 ⟨rfl, g4⟩; go_wp2_with fail
  with_reducible refine (less_at _ _ _ _ A B A B _ false X1.fi X2.fi X1.fi X2.fi ba bb ba bb (ls_self A B)).mono ?_; rintro e1 w7 ⟨rfl, g6⟩
  go_wp2
  go_ret
  exact ⟨rfl, (Grown_trans g1 (Grown_trans g2 (Grown_trans g3 (Grown_trans g4 g6))))⟩

set_option maxRecDepth 100000 in
set_option maxHeartbeats 4000000 in
theorem line_all_gt (a b c d e f : Int) (w : World) (hl : ls (sp a) (sp b) (sp c) (sp d) = false) (hg : ls (sp c) (sp d) (sp a) (sp b) = true) (he : ¬ (sp a = sp c ∧ sp b = sp d)) :
    Calls Try.prog 4 #[.int .i64 a, .int .i64 b, .int .i64 c, .int .i64 d, .int .i64 e, .int .i64 f, .bool false] w fun e w' => e = .returned (.bool true) ∧ Grown w w' := by
  have ba := nabs_le (B := 16777216) (sp_le a) (by decide)
  have bb := nabs_le (B := 16777216) (sp_le b) (by decide)
  have bc := nabs_le (B := 16777216) (sp_le c) (by decide)
  have bd := nabs_le (B := 16777216) (sp_le d) (by decide)
  have be := nabs_le (B := 16777216) (sp_le e) (by decide)
  have bf := nabs_le (B := 16777216) (sp_le f) (by decide)
  go_enter Try.func4, Try.ntmps4
  go_wp2_with fail
  with_reducible refine (small_any _ _ _).mono ?_; rintro e1 w1 ⟨x1, x2, rfl, X1, X2, rfl⟩; go_wp2_with fail
  with_reducible refine (small_any _ _ _).mono ?_; rintro e1 w1 ⟨y1, y2, rfl, Y1, Y2, rfl⟩; go_wp2_with fail
  with_reducible refine (small_any _ _ _).mono ?_; rintro e1 w1 ⟨z1, z2, rfl, Z1, Z2, rfl⟩; go_wp2_with fail
  generalize sp a = A at *
  generalize sp b = B at *
  generalize sp c = C at *
  generalize sp d = D at *
  generalize sp e = E at *
  generalize sp f = F at *
  have o1 := ne_at X1.fi X2.fi Y1.fi Y2.fi he
  with_reducible refine (less_at _ _ _ _ A B C D _ false X1.fi X2.fi Y1.fi Y2.fi ba bb bc bd hl).mono ?_; rintro e1 w2 ⟨rfl, g1⟩; go_wp2_with fail
  with_reducible refine (less_at _ _ _ _ C D A B _ true Y1.fi Y2.fi X1.fi X2.fi bc bd ba bb hg).mono ?_; rintro e1 w3 ⟨rfl, g2⟩; go_wp2_with fail
  with_reducible refine (told_any _).mono ?_; rintro e1 w4 ⟨rfl, g3⟩; go_wp2_with fail
  with_reducible refine (less_at _ _ _ _ A B A B _ false X1.fi X2.fi X1.fi X2.fi ba bb ba bb (ls_self A B)).mono ?_; rintro e1 w7 ⟨rfl, g6⟩
  go_wp2
  go_ret
  exact ⟨rfl, (Grown_trans g1 (Grown_trans g2 (Grown_trans g3 g6)))⟩

set_option maxRecDepth 100000 in
set_option maxHeartbeats 4000000 in
theorem line_all_eq (a b c d e f : Int) (w : World) (hl : ls (sp a) (sp b) (sp c) (sp d) = false) (hg : ls (sp c) (sp d) (sp a) (sp b) = false) (he : (sp a = sp c ∧ sp b = sp d)) :
    Calls Try.prog 4 #[.int .i64 a, .int .i64 b, .int .i64 c, .int .i64 d, .int .i64 e, .int .i64 f, .bool false] w fun e w' => e = .returned (.bool true) ∧ Grown w w' := by
  have HE : Hid (sp a = sp c ∧ sp b = sp d) := he
  clear he
  have ba := nabs_le (B := 16777216) (sp_le a) (by decide)
  have bb := nabs_le (B := 16777216) (sp_le b) (by decide)
  have bc := nabs_le (B := 16777216) (sp_le c) (by decide)
  have bd := nabs_le (B := 16777216) (sp_le d) (by decide)
  have be := nabs_le (B := 16777216) (sp_le e) (by decide)
  have bf := nabs_le (B := 16777216) (sp_le f) (by decide)
  go_enter Try.func4, Try.ntmps4
  go_wp2_with fail
  with_reducible refine (small_any _ _ _).mono ?_; rintro e1 w1 ⟨x1, x2, rfl, X1, X2, rfl⟩; go_wp2_with fail
  with_reducible refine (small_any _ _ _).mono ?_; rintro e1 w1 ⟨y1, y2, rfl, Y1, Y2, rfl⟩; go_wp2_with fail
  with_reducible refine (small_any _ _ _).mono ?_; rintro e1 w1 ⟨z1, z2, rfl, Z1, Z2, rfl⟩; go_wp2_with fail
  generalize sp a = A at *
  generalize sp b = B at *
  generalize sp c = C at *
  generalize sp d = D at *
  generalize sp e = E at *
  generalize sp f = F at *
  have o1 := eq_at X1.fi X2.fi Y1.fi Y2.fi HE.out
  with_reducible refine (less_at _ _ _ _ A B C D _ false X1.fi X2.fi Y1.fi Y2.fi ba bb bc bd hl).mono ?_; rintro e1 w2 ⟨rfl, g1⟩; go_wp2_with fail
  with_reducible refine (less_at _ _ _ _ C D A B _ false Y1.fi Y2.fi X1.fi X2.fi bc bd ba bb hg).mono ?_; rintro e1 w3 ⟨rfl, g2⟩; go_wp2_with fail
  with_reducible refine (told_any _).mono ?_; rintro e1 w4 ⟨rfl, g3⟩; go_wp2_with fail
  with_reducible refine (less_at _ _ _ _ A B A B _ false X1.fi X2.fi X1.fi X2.fi ba bb ba bb (ls_self A B)).mono ?_; rintro e1 w7 ⟨rfl, g6⟩
  go_wp2
  go_ret
  exact ⟨rfl, (Grown_trans g1 (Grown_trans g2 (Grown_trans g3 g6)))⟩

set_option maxRecDepth 100000 in
set_option maxHeartbeats 4000000 in
theorem line_few_lt (a b c d e f : Int) (w : World) (hl : ls (fp a) (fp b) (fp c) (fp d) = true) (hg : ls (fp c) (fp d) (fp a) (fp b) = false) (he : ¬ (fp a = fp c ∧ fp b = fp d)) (hh : ls (fp c) (fp d) (fp e) (fp f) = true) :
    Calls Try.prog 4 #[.int .i64 a, .int .i64 b, .int .i64 c, .int .i64 d, .int .i64 e, .int .i64 f, .bool true] w fun e w' => e = .returned (.bool true) ∧ Grown w w' := by
  have ba := nabs_le (B := 16777216) (fp_le a) (by decide)
  have bb := nabs_le (B := 16777216) (fp_le b) (by decide)
  have bc := nabs_le (B := 16777216) (fp_le c) (by decide)
  have bd := nabs_le (B := 16777216) (fp_le d) (by decide)
  have be := nabs_le (B := 16777216) (fp_le e) (by decide)
  have bf := nabs_le (B := 16777216) (fp_le f) (by decide)
  have qa := fp_eq a
  have qb := fp_eq b
  have qc := fp_eq c
  have qd := fp_eq d
  have qe := fp_eq e
  have qf := fp_eq f
  have ta := FI_of_int (fp a) (nabs_lt ba (by decide))
  have tb := FI_of_int (fp b) (nabs_lt bb (by decide))
  have tc := FI_of_int (fp c) (nabs_lt bc (by decide))
  have td := FI_of_int (fp d) (nabs_lt bd (by decide))
  have te := FI_of_int (fp e) (nabs_lt be (by decide))
  have tf := FI_of_int (fp f) (nabs_lt bf (by decide))
  go_enter Try.func4, Try.ntmps4
  go_wp2_with fail
  with_reducible refine (small_any _ _ _).mono ?_; rintro e1 w1 ⟨x1, x2, rfl, X1, X2, rfl⟩; go_wp2_with fail
  with_reducible refine (small_any _ _ _).mono ?_; rintro e1 w1 ⟨y1, y2, rfl, Y1, Y2, rfl⟩; go_wp2_with fail
  with_reducible refine (small_any _ _ _).mono ?_; rintro e1 w1 ⟨z1, z2, rfl, Z1, Z2, rfl⟩; go_wp2_with fail
  with_reducible refine (make_any _ _ _).mono ?_; rintro e1 w1 ⟨rfl, rfl⟩; go_wp2_with fail
  with_reducible refine (make_any _ _ _).mono ?_; rintro e1 w1 ⟨rfl, rfl⟩; go_wp2_with fail
  with_reducible refine (make_any _ _ _).mono ?_; rintro e1 w1 ⟨rfl, rfl⟩; go_wp2_with fail
  clear qa qb qc qd qe qf X1 X2 Y1 Y2 Z1 Z2
  generalize fp a = A at *
  generalize fp b = B at *
  generalize fp c = C at *
  generalize fp d = D at *
  generalize fp e = E at *
  generalize fp f = F at *
  have o1 := ne_at ta tb tc td he
  with_reducible refine (less_at _ _ _ _ A B C D _ true ta tb tc td ba bb bc bd hl).mono ?_; rintro e1 w2 ⟨rfl, g1⟩; go_wp2_with fail
  with_reducible refine (less_at _ _ _ _ C D A B _ false tc td ta tb bc bd ba bb hg).mono ?_; rintro e1 w3 ⟨rfl, g2⟩; go_wp2_with fail
  with_reducible refine (told_any _).mono ?_; rintro e1 w4 ⟨rfl, g3⟩; go_wp2_with fail
  with_reducible refine (less_at _ _ _ _ C D E F _ true tc td te tf bc bd be bf hh).mono ?_; rintro e1 w5 ⟨rfl, g4⟩; go_wp2_with fail
  with_reducible refine (less_at _ _ _ _ A B E F _ true ta tb te tf ba bb be bf (ls_trans hl hh)).mono ?_; rintro e1 w6 ⟨rfl, g5⟩; go_wp2_with fail
  with_reducible refine (less_at _ _ _ _ A B A B _ false ta tb ta tb ba bb ba bb (ls_self A B)).mono ?_; rintro e1 w7 ⟨rfl, g6⟩
  go_wp2
  go_ret
  exact ⟨rfl, (Grown_trans g1 (Grown_trans g2 (Grown_trans g3 (Grown_trans g4 (Grown_trans g5 g6)))))⟩

set_option maxRecDepth 100000 in
set_option maxHeartbeats 4000000 in
theorem line_few_ln (a b c d e f : Int) (w : World) (hl : ls (fp a) (fp b) (fp c) (fp d) = true) (hg : ls (fp c) (fp d) (fp a) (fp b) = false) (he : ¬ (fp a = fp c ∧ fp b = fp d)) (hh : ls (fp c) (fp d) (fp e) (fp f) = false) :
    Calls Try.prog 4 #[.int .i64 a, .int .i64 b, .int .i64 c, .int .i64 d, .int .i64 e, .int .i64 f, .bool true] w fun e w' => e = .returned (.bool true) ∧ Grown w w' := by
  have ba := nabs_le (B := 16777216) (fp_le a) (by decide)
  have bb := nabs_le (B := 16777216) (fp_le b) (by decide)
  have bc := nabs_le (B := 16777216) (fp_le c) (by decide)
  have bd := nabs_le (B := 16777216) (fp_le d) (by decide)
  have be := nabs_le (B := 16777216) (fp_le e) (by decide)
  have bf := nabs_le (B := 16777216) (fp_le f) (by decide)
  have qa := fp_eq a
  have qb := fp_eq b
  have qc := fp_eq c
  have qd := fp_eq d
  have qe := fp_eq e
  have qf := fp_eq f
  have ta := FI_of_int (fp a) (nabs_lt ba (by decide))
  have tb := FI_of_int (fp b) (nabs_lt bb (by decide))
  have tc := FI_of_int (fp c) (nabs_lt bc (by decide))
  have td := FI_of_int (fp d) (nabs_lt bd (by decide))
  have te := FI_of_int (fp e) (nabs_lt be (by decide))
  have tf := FI_of_int (fp f) (nabs_lt bf (by decide))
  go_enter Try.func4, Try.ntmps4
  go_wp2_with fail
  with_reducible refine (small_any _ _ _).mono ?_; rintro e1 w1 ⟨x1, x2, rfl, X1, X2, rfl⟩; go_wp2_with fail
  with_reducible refine (small_any _ _ _).mono ?_; rintro e1 w1 ⟨y1, y2, rfl, Y1, Y2, rfl⟩; go_wp2_with fail
  with_reducible refine (small_any _ _ _).mono ?_; rintro e1 w1 ⟨z1, z2, rfl, Z1, Z2, rfl⟩; go_wp2_with fail
  with_reducible refine (make_any _ _ _).mono ?_; rintro e1 w1 ⟨rfl, rfl⟩; go_wp2_with fail
  with_reducible refine (make_any _ _ _).mono ?_; rintro e1 w1 ⟨rfl, rfl⟩; go_wp2_with fail
  with_reducible refine (make_any _ _ _).mono ?_; rintro e1 w1 ⟨rfl, rfl⟩; go_wp2_with fail
  clear qa qb qc qd qe qf X1 X2 Y1 Y2 Z1 Z2
  generalize fp a = A at *
  generalize fp b = B at *
  generalize fp c = C at *
  generalize fp d = D at *
  generalize fp e = E at *
  generalize fp f = F at *
  have o1 := ne_at ta tb tc td he
  with_reducible refine (less_at _ _ _ _ A B C D _ true ta tb tc td ba bb bc bd hl).mono ?_; rintro e1 w2 ⟨rfl, g1⟩; go_wp2_with fail
  with_reducible refine (less_at _ _ _ _ C D A B _ false tc td ta tb bc bd ba bb hg).mono ?_; rintro e1 w3 ⟨rfl, g2⟩; go_wp2_with fail
  with_reducible refine (told_any _).mono ?_; rintro e1 w4 ⟨rfl, g3⟩; go_wp2_with fail
  with_reducible refine (less_at _ _ _ _ C D E F _ false tc td te tf bc bd be bf hh).mono ?_; rintro e1 w5 ⟨rfl, g4⟩; go_wp2_with fail
  with_reducible refine (less_at _ _ _ _ A B A B _ false ta tb ta tb ba bb ba bb (ls_self A B)).mono ?_; rintro e1 w7 ⟨rfl, g6⟩
  go_wp2
  go_ret
  exact ⟨rfl, (Grown_trans g1 (Grown_trans g2 (Grown_trans g3 (Grown_trans g4 g6))))⟩

set_option maxRecDepth 100000 in
set_option maxHeartbeats 4000000 in
theorem line_few_gt (a b c d e f : Int) (w : World) (hl : ls (fp a) (fp b) (fp c) (fp d) = false) (hg : ls (fp c) (fp d) (fp a) (fp b) = true) (he : ¬ (fp a = fp c ∧ fp b = fp d)) :
    Calls Try.prog 4 #[.int .i64 a, .int .i64 b, .int .i64 c, .int .i64 d, .int .i64 e, .int .i64 f, .bool true] w fun e w' => e = .returned (.bool true) ∧ Grown w w' := by
  have ba := nabs_le (B := 16777216) (fp_le a) (by decide)
  have bb := nabs_le (B := 16777216) (fp_le b) (by decide)
  have bc := nabs_le (B := 16777216) (fp_le c) (by decide)
  have bd := nabs_le (B := 16777216) (fp_le d) (by decide)
  have be := nabs_le (B := 16777216) (fp_le e) (by decide)
  have bf := nabs_le (B := 16777216) (fp_le f) (by decide)
  have qa := fp_eq a
  have qb := fp_eq b
  have qc := fp_eq c
  have qd := fp_eq d
  have qe := fp_eq e
  have qf := fp_eq f
  have ta := FI_of_int (fp a) (nabs_lt ba (by decide))
  have tb := FI_of_int (fp b) (nabs_lt bb (by decide))
  have tc := FI_of_int (fp c) (nabs_lt bc (by decide))
  have td := FI_of_int (fp d) (nabs_lt bd (by decide))
  have te := FI_of_int (fp e) (nabs_lt be (by decide))
  have tf := FI_of_int (fp f) (nabs_lt bf (by decide))
  go_enter Try.func4, Try.ntmps4
  go_wp2_with fail
  with_reducible refine (small_any _ _ _).mono ?_; rintro e1 w1 ⟨x1, x2, rfl, X1, X2, rfl⟩; go_wp2_with fail
  with_reducible refine (small_any _ _ _).mono ?_; rintro e1 w1 ⟨y1, y2, rfl, Y1, Y2, rfl⟩; go_wp2_with fail
  with_reducible refine (small_any _ _ _).mono ?_; rintro e1 w1 ⟨z1, z2, rfl, Z1, Z2, rfl⟩; go_wp2_with fail
  with_reducible refine (make_any _ _ _).mono ?_; rintro e1 w1 ⟨rfl, rfl⟩; go_wp2_with fail
  with_reducible refine (make_any _ _ _).mono ?_; rintro e1 w1 ⟨rfl, rfl⟩; go_wp2_with fail
  with_reducible refine (make_any _ _ _).mono ?_; rintro e1 w1 ⟨rfl, rfl⟩; go_wp2_with fail
  clear qa qb qc qd qe qf X1 X2 Y1 Y2 Z1 Z2
  generalize fp a = A at *
  generalize fp b = B at *
  generalize fp c = C at *
  generalize fp d = D at *
  generalize fp e = E at *
  generalize fp f = F at *
  have o1 := ne_at ta tb tc td he
  with_reducible refine (less_at _ _ _ _ A B C D _ false ta tb tc td ba bb bc bd hl).mono ?_; rintro e1 w2 ⟨rfl, g1⟩; go_wp2_with fail
  with_reducible refine (less_at _ _ _ _ C D A B _ true tc td ta tb bc bd ba bb hg).mono ?_; rintro e1 w3 ⟨rfl, g2⟩; go_wp2_with fail
  with_reducible refine (told_any _).mono ?_; rintro e1 w4 ⟨rfl, g3⟩; go_wp2_with fail
  with_reducible refine (less_at _ _ _ _ A B A B _ false ta tb ta tb ba bb ba bb (ls_self A B)).mono ?_; rintro e1 w7 ⟨rfl, g6⟩
  go_wp2
  go_ret
  exact ⟨rfl, (Grown_trans g1 (Grown_trans g2 (Grown_trans g3 g6)))⟩

set_option maxRecDepth 100000 in
set_option maxHeartbeats 4000000 in
theorem line_few_eq (a b c d e f : Int) (w : World) (hl : ls (fp a) (fp b) (fp c) (fp d) = false) (hg : ls (fp c) (fp d) (fp a) (fp b) = false) (he : (fp a = fp c ∧ fp b = fp d)) :
    Calls Try.prog 4 #[.int .i64 a, .int .i64 b, .int .i64 c, .int .i64 d, .int .i64 e, .int .i64 f, .bool true] w fun e w' => e = .returned (.bool true) ∧ Grown w w' := by
  have HE : Hid (fp a = fp c ∧ fp b = fp d) := he
  clear he
  have ba := nabs_le (B := 16777216) (fp_le a) (by decide)
  have bb := nabs_le (B := 16777216) (fp_le b) (by decide)
  have bc := nabs_le (B := 16777216) (fp_le c) (by decide)
  have bd := nabs_le (B := 16777216) (fp_le d) (by decide)
  have be := nabs_le (B := 16777216) (fp_le e) (by decide)
  have bf := nabs_le (B := 16777216) (fp_le f) (by decide)
  have qa := fp_eq a
  have qb := fp_eq b
  have qc := fp_eq c
  have qd := fp_eq d
  have qe := fp_eq e
  have qf := fp_eq f
  have ta := FI_of_int (fp a) (nabs_lt ba (by decide))
  have tb := FI_of_int (fp b) (nabs_lt bb (by decide))
  have tc := FI_of_int (fp c) (nabs_lt bc (by decide))
  have td := FI_of_int (fp d) (nabs_lt bd (by decide))
  have te := FI_of_int (fp e) (nabs_lt be (by decide))
  have tf := FI_of_int (fp f) (nabs_lt bf (by decide))
  go_enter Try.func4, Try.ntmps4
  go_wp2_with fail
  with_reducible refine (small_any _ _ _).mono ?_; rintro e1 w1 ⟨x1, x2, rfl, X1, X2, rfl⟩; go_wp2_with fail
  with_reducible refine (small_any _ _ _).mono ?_; rintro e1 w1 ⟨y1, y2, rfl, Y1, Y2, rfl⟩; go_wp2_with fail
  with_reducible refine (small_any _ _ _).mono ?_; rintro e1 w1 ⟨z1, z2, rfl, Z1, Z2, rfl⟩; go_wp2_with fail
  with_reducible refine (make_any _ _ _).mono ?_; rintro e1 w1 ⟨rfl, rfl⟩; go_wp2_with fail
  with_reducible refine (make_any _ _ _).mono ?_; rintro e1 w1 ⟨rfl, rfl⟩; go_wp2_with fail
  with_reducible refine (make_any _ _ _).mono ?_; rintro e1 w1 ⟨rfl, rfl⟩; go_wp2_with fail
  clear qa qb qc qd qe qf X1 X2 Y1 Y2 Z1 Z2
  generalize fp a = A at *
  generalize fp b = B at *
  generalize fp c = C at *
  generalize fp d = D at *
  generalize fp e = E at *
  generalize fp f = F at *
  have o1 := eq_at ta tb tc td HE.out
  with_reducible refine (less_at _ _ _ _ A B C D _ false ta tb tc td ba bb bc bd hl).mono ?_; rintro e1 w2 ⟨rfl, g1⟩; go_wp2_with fail
  with_reducible refine (less_at _ _ _ _ C D A B _ false tc td ta tb bc bd ba bb hg).mono ?_; rintro e1 w3 ⟨rfl, g2⟩; go_wp2_with fail
  with_reducible refine (told_any _).mono ?_; rintro e1 w4 ⟨rfl, g3⟩; go_wp2_with fail
  with_reducible refine (less_at _ _ _ _ A B A B _ false ta tb ta tb ba bb ba bb (ls_self A B)).mono ?_; rintro e1 w7 ⟨rfl, g6⟩
  go_wp2
  go_ret
  exact ⟨rfl, (Grown_trans g1 (Grown_trans g2 (Grown_trans g3 g6)))⟩

theorem line_any (a b c d e f : Int) (few : Bool) (w : World) :
    Calls Try.prog 4 #[.int .i64 a, .int .i64 b, .int .i64 c, .int .i64 d, .int .i64 e, .int .i64 f, .bool few] w fun e w' => e = .returned (.bool true) ∧ Grown w w' := by
  cases few
  · rcases ls_cases (sp a) (sp b) (sp c) (sp d) with ⟨h1, h2, h3⟩ | ⟨h1, h2, h3⟩ | ⟨h1, h2, h3⟩
    · cases h : ls (sp c) (sp d) (sp e) (sp f)
      · exact line_all_ln a b c d e f w h1 h2 h3 h
      · exact line_all_lt a b c d e f w h1 h2 h3 h
    · exact line_all_gt a b c d e f w h1 h2 h3
    · exact line_all_eq a b c d e f w h1 h2 h3
  · rcases ls_cases (fp a) (fp b) (fp c) (fp d) with ⟨h1, h2, h3⟩ | ⟨h1, h2, h3⟩ | ⟨h1, h2, h3⟩
    · cases h : ls (fp c) (fp d) (fp e) (fp f)
      · exact line_few_ln a b c d e f w h1 h2 h3 h
      · exact line_few_lt a b c d e f w h1 h2 h3 h
    · exact line_few_gt a b c d e f w h1 h2 h3
    · exact line_few_eq a b c d e f w h1 h2 h3

end Go.Proofs.Ytobmgeklccagfab
