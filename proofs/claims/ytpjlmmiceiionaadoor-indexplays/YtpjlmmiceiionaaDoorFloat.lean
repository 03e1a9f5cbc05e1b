/- Whole numbers as float64 words: what a word that stands for a whole number below 2^53 gives under '+', '-', '*', the comparisons, the conversions, Abs and Trunc. Nothing of the program is named. -/
import Derived.Laws.ComplexArith
namespace Go.Proofs.YtpjlmmiceiionaaDoor
open Ieee

theorem dbl_bin : Ieee.double.binade = 4503599627370496 := by decide
theorem dbl_sw : Ieee.double.signWeight = 9223372036854775808 := by decide
theorem dbl_inf : Ieee.double.infRung = 9218868437227405312 := by decide
theorem dbl_least : Ieee.double.leastPlace = -1074 := by decide
theorem dbl_frac : Ieee.double.fractionBits = 52 := rfl
theorem dbl_width : Ieee.double.width = 64 := rfl

theorem log2_scaled (a K : Nat) (ha : 0 < a) : (a * 2 ^ K).log2 = a.log2 + K := by
  have hK : 0 < 2 ^ K := Nat.two_pow_pos K
  have hne : a * 2 ^ K ≠ 0 := Nat.mul_ne_zero (by omega) (by omega)
  rw [Nat.log2_eq_iff hne]
  have h1 : 2 ^ a.log2 ≤ a := Nat.log2_self_le (by omega)
  have h2 : a < 2 ^ (a.log2 + 1) := Nat.lt_log2_self
  constructor
  · rw [Nat.pow_add]; exact Nat.mul_le_mul_right _ h1
  · rw [show a.log2 + K + 1 = (a.log2 + 1) + K by omega, Nat.pow_add]
    exact Nat.mul_lt_mul_of_pos_right h2 hK

theorem log2_ge_drop (x d : Nat) (hx : 0 < x) : min d ((x * 2 ^ d).log2 + 2) = d := by
  rw [log2_scaled x d hx]; omega

theorem cut_exact (way : Toward) (s : Bool) (x d : Nat) (hx : 0 < x) : way.cut s (x * 2 ^ d) d = x := by
  have hd : 0 < 2 ^ d := Nat.two_pow_pos d
  have h1 : x * 2 ^ d / 2 ^ d = x := Nat.mul_div_cancel _ hd
  have h2 : x * 2 ^ d % 2 ^ d = 0 := Nat.mul_mod_left _ _
  unfold Toward.cut
  simp only [log2_ge_drop x d hx, Nat.one_shiftLeft, h1, h2]
  cases way <;> simp

theorem cut_zero_of_zero (s : Bool) (d : Nat) : Toward.zero.cut s 0 d = 0 := by
  unfold Toward.cut; simp

theorem read_word (s : Bool) (r : Nat) (h0 : 4503599627370496 ≤ r) (h1 : r < 9218868437227405312) :
    Ieee.double.read (Ieee.double.word s r) = .number s (4503599627370496 + r % 4503599627370496) (-1074 + (r / 4503599627370496 - 1 : Nat)) := by
  unfold Format.read Format.word
  simp only [dbl_bin, dbl_sw, dbl_inf, dbl_least]
  cases s
  · have a1 : r / 9223372036854775808 = 0 := by omega
    have a2 : r % 9223372036854775808 = r := by omega
    simp [a1, a2, show ¬ r < 4503599627370496 by omega, h1]
  · have a1 : (9223372036854775808 + r) / 9223372036854775808 = 1 := by omega
    have a2 : (9223372036854775808 + r) % 9223372036854775808 = r := by omega
    simp only [if_true, a1, a2, show ¬ r < 4503599627370496 by omega, h1, if_false]
    simp

theorem read_zero (s : Bool) : Ieee.double.read (Ieee.double.word s 0) = .number s 0 (-((1074 : Nat) : Int)) := by
  cases s <;> decide

theorem nearest_read (s : Bool) (a K : Nat) (ha : 0 < a) (hlt : a < 9007199254740992) :
    ∃ e : Nat, Ieee.double.read (Ieee.double.nearest s (a * 2 ^ K) (-(K : Int))) = .number s (a * 2 ^ e) (-(e : Int)) := by
  have hK : 0 < 2 ^ K := Nat.two_pow_pos K
  have hne : ¬ a * 2 ^ K = 0 := Nat.mul_ne_zero (by omega) (by omega)
  have h1 : 2 ^ a.log2 ≤ a := Nat.log2_self_le (by omega)
  have h2 : a < 2 ^ (a.log2 + 1) := Nat.lt_log2_self
  have hL : a.log2 ≤ 52 := by
    have h3 : 2 ^ a.log2 < 2 ^ 53 := by omega
    have := (Nat.pow_lt_pow_iff_right (a := 2) (by omega)).1 h3
    omega
  refine ⟨52 - a.log2, ?_⟩
  have hlast : max (-(K : Int) + ((a * 2 ^ K).log2 : Nat) - (Ieee.double.fractionBits : Nat)) Ieee.double.leastPlace = (a.log2 : Int) - 52 := by
    rw [log2_scaled a K ha, dbl_frac, dbl_least]; omega
  have hM1 : 4503599627370496 ≤ a * 2 ^ (52 - a.log2) := by
    have : 2 ^ a.log2 * 2 ^ (52 - a.log2) ≤ a * 2 ^ (52 - a.log2) := Nat.mul_le_mul_right _ h1
    rw [← Nat.pow_add, show a.log2 + (52 - a.log2) = 52 by omega] at this
    omega
  have hM2 : a * 2 ^ (52 - a.log2) < 9007199254740992 := by
    have : a * 2 ^ (52 - a.log2) < 2 ^ (a.log2 + 1) * 2 ^ (52 - a.log2) := Nat.mul_lt_mul_of_pos_right h2 (Nat.two_pow_pos _)
    rw [← Nat.pow_add, show a.log2 + 1 + (52 - a.log2) = 53 by omega] at this
    omega
  have hkept : Toward.even.cut s ((a * 2 ^ K) <<< (-(K : Int) - ((a.log2 : Int) - 52)).toNat) (((a.log2 : Int) - 52) - -(K : Int)).toNat = a * 2 ^ (52 - a.log2) := by
    by_cases hc : K ≤ 52 - a.log2
    · have e1 : (-(K : Int) - ((a.log2 : Int) - 52)).toNat = 52 - a.log2 - K := by omega
      have e2 : (((a.log2 : Int) - 52) - -(K : Int)).toNat = 0 := by omega
      rw [e1, e2, Nat.shiftLeft_eq, Nat.mul_assoc, ← Nat.pow_add, show K + (52 - a.log2 - K) = 52 - a.log2 by omega]
      have := cut_exact .even s (a * 2 ^ (52 - a.log2)) 0 (by omega)
      simpa using this
    · have e1 : (-(K : Int) - ((a.log2 : Int) - 52)).toNat = 0 := by omega
      have e2 : (((a.log2 : Int) - 52) - -(K : Int)).toNat = K - (52 - a.log2) := by omega
      rw [e1, e2, Nat.shiftLeft_zero]
      have := cut_exact .even s (a * 2 ^ (52 - a.log2)) (K - (52 - a.log2)) (by omega)
      rw [Nat.mul_assoc, ← Nat.pow_add, show 52 - a.log2 + (K - (52 - a.log2)) = K by omega] at this
      exact this
  unfold Format.nearest
  simp only [hne, if_false, hlast, hkept]
  generalize a * 2 ^ (52 - a.log2) = M at hM1 hM2
  generalize a.log2 = L at hL
  rw [dbl_least, dbl_bin, dbl_inf]
  have hr : min (((L : Int) - 52 - -1074).toNat * 4503599627370496 + M) 9218868437227405312 = (L + 1022) * 4503599627370496 + M := by
    have : ((L : Int) - 52 - -1074).toNat = L + 1022 := by omega
    rw [this]; exact Nat.min_eq_left (by omega)
  rw [hr, read_word _ _ (by omega) (by omega)]
  have d1 : 4503599627370496 + ((L + 1022) * 4503599627370496 + M) % 4503599627370496 = M := by omega
  have d2 : ((L + 1022) * 4503599627370496 + M) / 4503599627370496 = L + 1023 := by omega
  rw [d1, d2, show (-1074 : Int) + ((L + 1023 - 1 : Nat) : Int) = -((52 - L : Nat) : Int) by omega]

/-- The word b stands for the whole number n (a zero of either sign). -/
def FI (b : Nat) (n : Int) : Prop :=
  b < 18446744073709551616 ∧ ∃ (s : Bool) (e : Nat), Ieee.double.read b = .number s (n.natAbs * 2 ^ e) (-(e : Int)) ∧ (n < 0 → s = true) ∧ (0 < n → s = false)

theorem word64 (d : Datum) : Ieee.double.write d < 18446744073709551616 := Ieee.double.write_lt d

theorem FI_write (s : Bool) (z : Int) (K : Nat) (hz : z.natAbs < 9007199254740992) (h1 : z < 0 → s = true) (h2 : 0 < z → s = false) :
    FI (Ieee.double.write (.number s (z.natAbs * 2 ^ K) (-(K : Int)))) z := by
  refine ⟨word64 _, ?_⟩
  show ∃ s' e, Ieee.double.read (Ieee.double.nearest s (z.natAbs * 2 ^ K) (-(K : Int))) = _ ∧ _ ∧ _
  by_cases h0 : z.natAbs = 0
  · have hz0 : z = 0 := by omega
    subst hz0
    obtain ⟨e, he⟩ : ∃ e : Nat, e = 1074 := ⟨_, rfl⟩
    refine ⟨s, e, ?_, by omega, by omega⟩
    have : Ieee.double.nearest s ((0 : Int).natAbs * 2 ^ K) (-(K : Int)) = Ieee.double.word s 0 := by
      unfold Format.nearest; simp
    rw [this, read_zero, Int.natAbs_zero, Nat.zero_mul, he]
  · obtain ⟨e, he⟩ := nearest_read s z.natAbs K (by omega) hz
    exact ⟨s, e, he, h1, h2⟩

theorem signed_scaled (s : Bool) (n : Int) (e u : Nat) (h1 : n < 0 → s = true) (h2 : 0 < n → s = false) :
    signed s (n.natAbs * 2 ^ e) u = n * (2 ^ (e + u) : Nat) := by
  unfold signed
  rw [Nat.shiftLeft_eq, Nat.mul_assoc, ← Nat.pow_add]
  generalize 2 ^ (e + u) = p
  rcases Int.lt_trichotomy n 0 with h | h | h
  · simp only [h1 h, if_true]
    rw [show n.natAbs * p = (n.natAbs * p : Nat) from rfl, Int.natCast_mul]
    have : (n.natAbs : Int) = -n := by omega
    rw [this, Int.neg_mul, Int.neg_neg]
  · subst h; simp
  · simp only [h2 h]
    rw [if_neg (by simp), Int.natCast_mul]
    have : (n.natAbs : Int) = n := by omega
    rw [this]

theorem sign_of_scaled (t : Int) (p : Nat) (hp : 0 < p) : ((t * (p : Int)) = 0 ↔ t = 0) ∧ ((t * (p : Int)) < 0 ↔ t < 0) := by
  have hp' : (0 : Int) < p := by omega
  constructor
  · constructor
    · intro h
      rcases Int.mul_eq_zero.1 h with h | h
      · exact h
      · omega
    · intro h; subst h; simp
  · constructor
    · intro h
      rcases Int.lt_or_le t 0 with h' | h'
      · exact h'
      · have := Int.mul_nonneg h' (Int.le_of_lt hp'); omega
    · intro h; exact Int.mul_neg_of_neg_of_pos h hp'

theorem min_neg (e f : Nat) : min (-(e : Int)) (-(f : Int)) = -((max e f : Nat) : Int) := by omega

theorem sum_read {s t : Bool} {x y : Int} {e f : Nat} (hs1 : x < 0 → s = true) (hs2 : 0 < x → s = false) (ht1 : y < 0 → t = true) (ht2 : 0 < y → t = false) :
    ∃ r : Bool, Datum.sum (.number s (x.natAbs * 2 ^ e) (-(e : Int))) (.number t (y.natAbs * 2 ^ f) (-(f : Int))) = some (.number r ((x + y).natAbs * 2 ^ (max e f)) (-((max e f : Nat) : Int))) ∧ (x + y < 0 → r = true) ∧ (0 < x + y → r = false) := by
  unfold Datum.sum
  simp only [min_neg]
  have e1 : (-(e : Int) - -((max e f : Nat) : Int)).toNat = max e f - e := by omega
  have e2 : (-(f : Int) - -((max e f : Nat) : Int)).toNat = max e f - f := by omega
  rw [e1, e2, signed_scaled s x e _ hs1 hs2, signed_scaled t y f _ ht1 ht2, show e + (max e f - e) = max e f by omega, show f + (max e f - f) = max e f by omega, ← Int.add_mul]
  have hp := Nat.two_pow_pos (max e f)
  generalize 2 ^ (max e f) = p at hp
  have hsc := sign_of_scaled (x + y) p hp
  refine ⟨if (x + y) * (p : Int) = 0 then s && t else decide ((x + y) * (p : Int) < 0), ?_, ?_, ?_⟩
  · rw [Int.natAbs_mul, Int.natAbs_natCast]
  · intro h
    rw [if_neg (by rw [hsc.1]; omega)]
    simpa using hsc.2.2 h
  · intro h
    rw [if_neg (by rw [hsc.1]; omega)]
    have : ¬ (x + y) * (p : Int) < 0 := by rw [hsc.2]; omega
    simpa using this

theorem FI_add {a b : Nat} {x y : Int} (ha : FI a x) (hb : FI b y) (h : (x + y).natAbs < 9007199254740992) :
    ∃ r, floatBits .add .f64 a b = some r ∧ FI r (x + y) := by
  obtain ⟨_, s, e, hr, h1, h2⟩ := ha
  obtain ⟨_, t, f, hr', h1', h2'⟩ := hb
  obtain ⟨r, hs, k1, k2⟩ := sum_read (e := e) (f := f) h1 h2 h1' h2'
  refine ⟨_, ?_, FI_write r (x + y) (max e f) h k1 k2⟩
  show Ieee.double.add a b = _
  unfold Format.add
  rw [hr, hr', hs]; rfl

theorem FI_sub {a b : Nat} {x y : Int} (ha : FI a x) (hb : FI b y) (h : (x - y).natAbs < 9007199254740992) :
    ∃ r, floatBits .sub .f64 a b = some r ∧ FI r (x - y) := by
  obtain ⟨_, s, e, hr, h1, h2⟩ := ha
  obtain ⟨_, t, f, hr', h1', h2'⟩ := hb
  have hop : (Datum.number t (y.natAbs * 2 ^ f) (-(f : Int))).opposite = .number (!t) ((-y).natAbs * 2 ^ f) (-(f : Int)) := by
    rw [Int.natAbs_neg]; rfl
  obtain ⟨r, hs, k1, k2⟩ := sum_read (s := s) (t := !t) (x := x) (y := -y) (e := e) (f := f) h1 h2 (fun h => by rw [h2' (by omega)]; rfl) (fun h => by rw [h1' (by omega)]; rfl)
  rw [← Int.sub_eq_add_neg] at hs k1 k2
  refine ⟨_, ?_, FI_write r (x - y) (max e f) h k1 k2⟩
  show Ieee.double.sub a b = _
  unfold Format.sub
  rw [hr, hr', hop, hs]; rfl

theorem FI_mul {a b : Nat} {x y : Int} (ha : FI a x) (hb : FI b y) (h : (x * y).natAbs < 9007199254740992) :
    ∃ r, floatBits .mul .f64 a b = some r ∧ FI r (x * y) := by
  obtain ⟨_, s, e, hr, h1, h2⟩ := ha
  obtain ⟨_, t, f, hr', h1', h2'⟩ := hb
  refine ⟨_, ?_, FI_write (s ^^ t) (x * y) (e + f) h ?_ ?_⟩
  · show Ieee.double.mul a b = _
    unfold Format.mul
    rw [hr, hr']
    unfold Datum.product
    simp only [Option.map_some]
    congr 3
    · rw [Int.natAbs_mul, Nat.pow_add, Nat.mul_assoc, Nat.mul_assoc, Nat.mul_left_comm (2 ^ e)]
    · omega
  · intro hn
    rcases Int.lt_trichotomy x 0 with hx | hx | hx <;> rcases Int.lt_trichotomy y 0 with hy | hy | hy
    · have := Int.mul_pos_of_neg_of_neg hx hy; omega
    · subst hy; simp at hn
    · simp [h1 hx, h2' hy]
    · subst hx; simp at hn
    · subst hx; simp at hn
    · subst hx; simp at hn
    · simp [h2 hx, h1' hy]
    · subst hy; simp at hn
    · have := Int.mul_pos hx hy; omega
  · intro hn
    rcases Int.lt_trichotomy x 0 with hx | hx | hx <;> rcases Int.lt_trichotomy y 0 with hy | hy | hy
    · simp [h1 hx, h1' hy]
    · subst hy; simp at hn
    · have := Int.mul_neg_of_neg_of_pos hx hy; omega
    · subst hx; simp at hn
    · subst hx; simp at hn
    · subst hx; simp at hn
    · have := Int.mul_neg_of_pos_of_neg hx hy; omega
    · subst hy; simp at hn
    · simp [h2 hx, h2' hy]

theorem compare_scaled (x y : Int) (p : Nat) (hp : 0 < p) : compare (x * (p : Int)) (y * (p : Int)) = compare x y := by
  have hp' : (0 : Int) < p := by omega
  rcases Int.lt_trichotomy x y with h | h | h
  · have := Int.mul_lt_mul_of_pos_right h hp'
    rw [Int.compare_eq_lt.2 this, Int.compare_eq_lt.2 h]
  · subst h; rw [Int.compare_eq_eq.2 rfl, Int.compare_eq_eq.2 rfl]
  · have := Int.mul_lt_mul_of_pos_right h hp'
    rw [Int.compare_eq_gt.2 this, Int.compare_eq_gt.2 h]

theorem FI_order {a b : Nat} {x y : Int} (ha : FI a x) (hb : FI b y) : Ieee.double.order a b = some (compare x y) := by
  obtain ⟨_, s, e, hr, h1, h2⟩ := ha
  obtain ⟨_, t, f, hr', h1', h2'⟩ := hb
  unfold Format.order
  rw [hr, hr']
  unfold Datum.order
  simp only [min_neg]
  have e1 : (-(e : Int) - -((max e f : Nat) : Int)).toNat = max e f - e := by omega
  have e2 : (-(f : Int) - -((max e f : Nat) : Int)).toNat = max e f - f := by omega
  rw [e1, e2, signed_scaled s x e _ h1 h2, signed_scaled t y f _ h1' h2', show e + (max e f - e) = max e f by omega, show f + (max e f - f) = max e f by omega, compare_scaled _ _ _ (Nat.two_pow_pos _)]

theorem FI_of_int (n : Int) (h : n.natAbs < 9007199254740992) : FI (floatOfInt .f64 n) n := by
  have := FI_write (decide (n < 0)) n 0 h (by intro h; simpa using h) (by intro h; simp; omega)
  simpa [floatOfInt, FloatKind.nearest, FloatKind.encode, FloatKind.format] using this

theorem FI_integral {a : Nat} {x : Int} (ha : FI a x) : ∃ s : Bool, (Ieee.double.read a).integral .zero = .number s x.natAbs 0 ∧ (x < 0 → s = true) ∧ (0 < x → s = false) := by
  obtain ⟨_, s, e, hr, h1, h2⟩ := ha
  refine ⟨s, ?_, h1, h2⟩
  rw [hr]
  unfold Datum.integral
  have e1 : (-(e : Int)).toNat = 0 := by omega
  have e2 : (- -(e : Int)).toNat = e := by omega
  simp only [e1, e2, Nat.shiftLeft_zero]
  by_cases h : x.natAbs = 0
  · rw [h, Nat.zero_mul, cut_zero_of_zero]
  · rw [cut_exact _ _ _ _ (by omega)]

theorem FI_toInt {a : Nat} {x : Int} (ha : FI a x) (h : x.natAbs < 9007199254740992) : floatToIntVal .f64 a .i64 = some x := by
  obtain ⟨s, hi, h1, h2⟩ := FI_integral ha
  have : (Ieee.double.read a).toInt .zero = some x := by
    unfold Datum.toInt
    rw [hi]
    have := signed_scaled s x 0 0 h1 h2
    simp at this
    simp [this]
  unfold floatToIntVal
  show (match (Ieee.double.read a).toInt .zero with | some n => _ | none => _) = _
  rw [this]
  have b1 : IntKind.i64.min ≤ x ∧ x ≤ IntKind.i64.max := by
    have e1 : IntKind.i64.min = -9223372036854775808 := by decide
    have e2 : IntKind.i64.max = 9223372036854775807 := by decide
    rw [e1, e2]; omega
  exact if_pos b1

theorem FI_trunc {a : Nat} {x : Int} (ha : FI a x) (h : x.natAbs < 9007199254740992) : FI (Ieee.double.write ((Ieee.double.read a).integral .zero)) x := by
  obtain ⟨s, hi, h1, h2⟩ := FI_integral ha
  rw [hi]
  have := FI_write s x 0 h h1 h2
  simpa using this

theorem FI_abs {a : Nat} {x : Int} (ha : FI a x) : FI (a % 9223372036854775808) x.natAbs := by
  obtain ⟨hlt, s, e, hr, h1, h2⟩ := ha
  refine ⟨by omega, false, e, ?_, by omega, fun _ => rfl⟩
  have h0 : a % 9223372036854775808 / 9223372036854775808 = 0 := by omega
  have h3 : a % 9223372036854775808 % 9223372036854775808 = a % 9223372036854775808 := by omega
  unfold Format.read at hr ⊢
  simp only [dbl_sw, dbl_bin, dbl_inf, dbl_least, h0, h3] at hr ⊢
  rw [Int.natAbs_natCast]
  split at hr
  · rename_i c
    rw [if_pos c]
    simp only [Datum.number.injEq] at hr ⊢
    exact ⟨by decide, hr.2⟩
  · rename_i c
    rw [if_neg c]
    split at hr
    · rename_i c'
      rw [if_pos c']
      simp only [Datum.number.injEq] at hr ⊢
      exact ⟨by decide, hr.2⟩
    · split at hr <;> cases hr

theorem xor_low (a : Nat) (h : a < 2 ^ 63) : a ^^^ 2 ^ 63 = 2 ^ 63 + a := by
  apply Nat.eq_of_testBit_eq
  intro i
  rw [Nat.testBit_xor, Nat.testBit_two_pow]
  rcases Nat.lt_trichotomy i 63 with hi | hi | hi
  · rw [Nat.testBit_two_pow_add_gt hi]; simp [show ¬ 63 = i by omega]
  · subst hi; rw [Nat.testBit_two_pow_add_eq]; simp
  · have h64 : 2 ^ 64 ≤ 2 ^ i := Nat.pow_le_pow_right (by omega) hi
    rw [Nat.testBit_lt_two_pow (x := a) (by omega), Nat.testBit_lt_two_pow (x := 2 ^ 63 + a) (by omega)]
    simp; omega

theorem xor_high (r : Nat) (h : r < 2 ^ 63) : (2 ^ 63 + r) ^^^ 2 ^ 63 = r := by
  rw [← xor_low r h, Nat.xor_assoc, Nat.xor_self, Nat.xor_zero]

theorem FI_neg {a : Nat} {x : Int} (ha : FI a x) : FI (Op.negFloat .f64 a) (-x) := by
  obtain ⟨hlt, s, e, hr, h1, h2⟩ := ha
  have hdef : Op.negFloat .f64 a = a ^^^ 2 ^ 63 := rfl
  have key : ∀ (b : Nat) (n : Bool), b < 18446744073709551616 → b % 9223372036854775808 = a % 9223372036854775808 → (b / 9223372036854775808 % 2 == 1) = !(a / 9223372036854775808 % 2 == 1) → FI b (-x) := by
    intro b _ hb hm hd
    refine ⟨hb, !s, e, ?_, fun h => by rw [h2 (by omega)]; rfl, fun h => by rw [h1 (by omega)]; rfl⟩
    unfold Format.read at hr ⊢
    simp only [dbl_sw, dbl_bin, dbl_inf, dbl_least, hm, hd] at hr ⊢
    rw [Int.natAbs_neg]
    split at hr
    · rename_i c
      rw [if_pos c]
      simp only [Datum.number.injEq] at hr ⊢
      exact ⟨by rw [hr.1], hr.2⟩
    · rename_i c
      rw [if_neg c]
      split at hr
      · rename_i c'
        rw [if_pos c']
        simp only [Datum.number.injEq] at hr ⊢
        exact ⟨by rw [hr.1], hr.2⟩
      · split at hr <;> cases hr
  rw [hdef]
  by_cases hc : a < 9223372036854775808
  · rw [xor_low a (by omega)]
    have q0 : a / 9223372036854775808 = 0 := by omega
    have q1 : (2 ^ 63 + a) / 9223372036854775808 = 1 := by omega
    exact key _ true (by omega) (by omega) (by rw [q0, q1]; rfl)
  · obtain ⟨r, rfl⟩ : ∃ r, a = 2 ^ 63 + r := ⟨a - 2 ^ 63, by omega⟩
    rw [xor_high r (by omega)]
    have q0 : r / 9223372036854775808 = 0 := by omega
    have q1 : (2 ^ 63 + r) / 9223372036854775808 = 1 := by omega
    exact key _ true (by omega) (by omega) (by rw [q0, q1]; rfl)

/-- '*' of two whole complex numbers. -/
theorem FI_cmul {a b c d : Nat} {x y u v : Int} (ha : FI a x) (hb : FI b y) (hc : FI c u) (hd : FI d v)
    (h1 : (x * u).natAbs < 4503599627370496) (h2 : (y * v).natAbs < 4503599627370496) (h3 : (x * v).natAbs < 4503599627370496) (h4 : (y * u).natAbs < 4503599627370496) :
    ∃ re im, cMulBits a b c d = some (re, im) ∧ FI re (x * u - y * v) ∧ FI im (x * v + y * u) := by
  obtain ⟨p, hp, fp⟩ := FI_mul ha hc (by omega)
  obtain ⟨q, hq, fq⟩ := FI_mul hb hd (by omega)
  obtain ⟨r, hr, fr⟩ := FI_mul ha hd (by omega)
  obtain ⟨s, hs, fs⟩ := FI_mul hb hc (by omega)
  obtain ⟨i, hi, fi⟩ := FI_sub fp fq (by omega)
  obtain ⟨j, hj, fj⟩ := FI_add fr fs (by omega)
  exact ⟨i, j, by simp [cMulBits, hp, hq, hr, hs, hi, hj], fi, fj⟩

theorem FI_cadd {a b c d : Nat} {x y u v : Int} (ha : FI a x) (hb : FI b y) (hc : FI c u) (hd : FI d v)
    (h1 : (x + u).natAbs < 9007199254740992) (h2 : (y + v).natAbs < 9007199254740992) :
    ∃ re im, cSumBits .add .f64 a b c d = some (re, im) ∧ FI re (x + u) ∧ FI im (y + v) := by
  obtain ⟨p, hp, fp⟩ := FI_add ha hc h1
  obtain ⟨q, hq, fq⟩ := FI_add hb hd h2
  exact ⟨p, q, by simp [cSumBits, hp, hq], fp, fq⟩

theorem FI_csub {a b c d : Nat} {x y u v : Int} (ha : FI a x) (hb : FI b y) (hc : FI c u) (hd : FI d v)
    (h1 : (x - u).natAbs < 9007199254740992) (h2 : (y - v).natAbs < 9007199254740992) :
    ∃ re im, cSumBits .sub .f64 a b c d = some (re, im) ∧ FI re (x - u) ∧ FI im (y - v) := by
  obtain ⟨p, hp, fp⟩ := FI_sub ha hc h1
  obtain ⟨q, hq, fq⟩ := FI_sub hb hd h2
  exact ⟨p, q, by simp [cSumBits, hp, hq], fp, fq⟩

theorem FI_zero : FI 0 0 := by
  have := FI_of_int 0 (by decide)
  have e : floatOfInt .f64 0 = 0 := by decide
  rwa [e] at this

theorem ord_eq {a b : Nat} {x y : Int} (ha : FI a x) (hb : FI b y) : (FloatKind.f64.format.order a b == some .eq) = decide (x = y) := by
  show (Ieee.double.order a b == some .eq) = _
  rw [FI_order ha hb]
  rcases Int.lt_trichotomy x y with h | h | h
  · rw [Int.compare_eq_lt.2 h]; simp; omega
  · rw [Int.compare_eq_eq.2 h]; simp [h]
  · rw [Int.compare_eq_gt.2 h]; simp; omega

theorem ord_lt {a b : Nat} {x y : Int} (ha : FI a x) (hb : FI b y) : (FloatKind.f64.format.order a b == some .lt) = decide (x < y) := by
  show (Ieee.double.order a b == some .lt) = _
  rw [FI_order ha hb]
  rcases Int.lt_trichotomy x y with h | h | h
  · rw [Int.compare_eq_lt.2 h]; simp [h]
  · rw [Int.compare_eq_eq.2 h]; simp; omega
  · rw [Int.compare_eq_gt.2 h]; simp; omega

theorem ord_le {a b : Nat} {x y : Int} (ha : FI a x) (hb : FI b y) : (FloatKind.f64.format.order a b == some .lt || FloatKind.f64.format.order a b == some .eq) = decide (x ≤ y) := by
  rw [ord_lt ha hb, ord_eq ha hb, ← Bool.decide_or]
  exact decide_eq_decide.2 (by omega)

end Go.Proofs.YtpjlmmiceiionaaDoor
