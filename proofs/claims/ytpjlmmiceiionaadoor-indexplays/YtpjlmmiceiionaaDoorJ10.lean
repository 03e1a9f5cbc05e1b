/- Joined: B3, D1. -/
import Derived.Test.YtpjlmmiceiionaaDoorB2
import Derived.Test.YtpjlmmiceiionaaDoorW3
/- The document's check; numbers in bytes: Get, the program's and the document's. -/
namespace Go.Proofs.YtpjlmmiceiionaaDoor
open Go.RowKit
set_option maxRecDepth 10000

def Bytes (f : Nat → Nat) : Prop := ∀ i, f i < 256
/-- m bytes lie in w in the block b from o on, and may be written. -/
structure BS (w : World) (b o m : Nat) (f : Nat → Nat) : Prop where
  lt : b < w.heap.size
  cell : ∀ i, i < m → w.cell? ⟨b, o + i, none⟩ = some (.int .u8 (f i : Nat))
  frz : ∀ i, i < m → w.frozen? ⟨b, o + i, none⟩ = false
  byte : Bytes f
theorem BS.kp {w w' : World} {b o m : Nat} {f : Nat → Nat} (h : BS w b o m f) (g : Kp w w') : BS w' b o m f :=
  ⟨Nat.lt_of_lt_of_le h.lt g.size, fun i hi => by rw [g.cell (p := ⟨b, o + i, none⟩) h.lt]; exact h.cell i hi, fun i hi => by rw [g.frz (p := ⟨b, o + i, none⟩) h.lt]; exact h.frz i hi, h.byte⟩
/-- f with v at p. -/
def upd (f : Nat → Nat) (p v : Nat) : Nat → Nat := fun i => if i = p then v else f i
theorem upd_same (f : Nat → Nat) (p v : Nat) : upd f p v p = v := if_pos rfl
theorem upd_other (f : Nat → Nat) (p v i : Nat) (h : i ≠ p) : upd f p v i = f i := if_neg h
theorem Bytes.upd {f : Nat → Nat} (h : Bytes f) (p v : Nat) (hv : v < 256) : Bytes (upd f p v) := fun i => by
  unfold Go.Proofs.YtpjlmmiceiionaaDoor.upd; split
  · exact hv
  · exact h i
theorem BS.set {w : World} {b o m : Nat} {f : Nat → Nat} (h : BS w b o m f) (p v : Nat) (hp : p < m) (hv : v < 256) : BS (w.setCell ⟨b, o + p, none⟩ (.int .u8 (v : Nat))) b o m (upd f p v) :=
  ⟨by rw [World.size_setCell]; exact h.lt, fun i hi => by
    by_cases e : i = p
    · subst e
      rw [World.cell?_setCell_same _ _ _ (h.cell i hi)]; simp [upd]
    · rw [World.cell?_setCell_other _ _ _ _ (by intro z; simp only [Addr.mk.injEq] at z; omega)]; simp only [upd, if_neg e]; exact h.cell i hi, fun i hi => by rw [World.frozen?_setCell]; exact h.frz i hi, h.byte.upd p v hv⟩
theorem BS.less {w : World} {b o m n : Nat} {f : Nat → Nat} (h : BS w b o m f) (hn : n ≤ m) : BS w b o n f := ⟨h.lt, fun i hi => h.cell i (by omega), fun i hi => h.frz i (by omega), h.byte⟩
theorem BS.like {w : World} {b o m : Nat} {f g : Nat → Nat} (h : BS w b o m f) (hg : ∀ i, i < m → g i = f i) (hb : Bytes g) : BS w b o m g := ⟨h.lt, fun i hi => by rw [hg i hi]; exact h.cell i hi, h.frz, hb⟩

/-- The number of the k bytes of f from p on, the lowest first. -/
def numb (f : Nat → Nat) (p : Nat) : Nat → Nat
  | 0 => 0
  | k + 1 => numb f p k + f (p + k) * 2 ^ (8 * k)
theorem numb_lt {f : Nat → Nat} (h : Bytes f) (p : Nat) : ∀ k, numb f p k < 2 ^ (8 * k)
  | 0 => by simp [numb]
  | k + 1 => by
    have h1 := numb_lt h p k
    have h2 : f (p + k) * 2 ^ (8 * k) ≤ 255 * 2 ^ (8 * k) := Nat.mul_le_mul_right _ (by have := h (p + k); omega)
    have h3 : 2 ^ (8 * (k + 1)) = 256 * 2 ^ (8 * k) := by rw [show 8 * (k + 1) = 8 + 8 * k by omega, Nat.pow_add]
    unfold numb; omega
theorem pow64 {k : Nat} (h : k ≤ 8) : 2 ^ (8 * k) ≤ 18446744073709551616 := Nat.pow_le_pow_right (n := 2) (by decide) (show 8 * k ≤ 64 by omega)

theorem or_step (f : Nat → Nat) (p k : Nat) (hb : Bytes f) (hk : k < 8) :
    IntKind.u64.wrap ((f (p + k) : Int) * 2 ^ (8 * k)) = ((f (p + k) * 2 ^ (8 * k) : Nat) : Int) ∧ bits .or .u64 (numb f p k : Nat) ((f (p + k) * 2 ^ (8 * k) : Nat) : Int) = (numb f p (k + 1) : Nat) := by
  have h1 := numb_lt hb p k
  have h2 := numb_lt hb p (k + 1)
  have h3 := pow64 (show k + 1 ≤ 8 by omega)
  have e : numb f p (k + 1) = numb f p k + f (p + k) * 2 ^ (8 * k) := rfl
  refine ⟨shl_mod (by omega), ?_⟩
  rw [u64_or_nat _ _ (by omega) (by omega)]
  have := Nat.shiftLeft_add_eq_or_of_lt h1 (f (p + k))
  rw [Nat.shiftLeft_eq] at this
  rw [Nat.or_comm, ← this, Nat.add_comm, e]

theorem numb_low (f : Nat → Nat) : ∀ (j q : Nat), numb f q (j + 1) = numb f (q + 1) j * 256 + f q
  | 0, q => by simp [numb]
  | j + 1, q => by
    have ih := numb_low f j q
    have e : numb f q (j + 1 + 1) = numb f q (j + 1) + f (q + (j + 1)) * 2 ^ (8 * (j + 1)) := rfl
    have e2 : numb f (q + 1) (j + 1) = numb f (q + 1) j + f (q + 1 + j) * 2 ^ (8 * j) := rfl
    rw [e, ih, e2, show 8 * (j + 1) = 8 * j + 8 by omega, Nat.pow_add, show (2 : Nat) ^ 8 = 256 from rfl, show q + 1 + j = q + (j + 1) by omega, Nat.add_mul, Nat.mul_assoc]
    omega

end Go.Proofs.YtpjlmmiceiionaaDoor

/- A page's sum, by whole numbers: bytes, words, halves, turns, sums; and sums of floats that are no -0. -/
namespace Go.Proofs.YtpjlmmiceiionaaDoor
open Go.RowKit Ieee

theorem sum_read0 {s t : Bool} {x : Int} {e f : Nat} (hs1 : x < 0 → s = true) (hs2 : 0 < x → s = false) (ht1 : -x < 0 → t = true) (ht2 : 0 < -x → t = false) :
    Datum.sum (.number s (x.natAbs * 2 ^ e) (-(e : Int))) (.number t ((-x).natAbs * 2 ^ f) (-(f : Int))) = some (.number (s && t) 0 (-((max e f : Nat) : Int))) := by
  unfold Datum.sum
  simp only [min_neg]
  have e1 : (-(e : Int) - -((max e f : Nat) : Int)).toNat = max e f - e := by omega
  have e2 : (-(f : Int) - -((max e f : Nat) : Int)).toNat = max e f - f := by omega
  rw [e1, e2, signed_scaled s x e _ hs1 hs2, signed_scaled t (-x) f _ ht1 ht2, show e + (max e f - e) = max e f by omega, show f + (max e f - f) = max e f by omega, ← Int.add_mul]
  have e3 : x + -x = 0 := by omega
  rw [e3, Int.zero_mul]
  simp

theorem FC_zero : FC 0 0 := ⟨FI_zero, fun _ => rfl⟩

theorem FC_add {a b : Nat} {x y : Int} (ha : FC a x) (hb : FC b y) (h : (x + y).natAbs < 9007199254740992) :
    ∃ r, floatBits .add .f64 a b = some r ∧ FC r (x + y) := by
  by_cases h0 : x + y = 0
  · by_cases hx : x = 0
    · have hy : y = 0 := by omega
      have e1 := ha.2 hx
      have e2 := hb.2 hy
      subst e1; subst e2
      exact ⟨0, by decide +kernel, by rw [h0]; exact FC_zero⟩
    · obtain ⟨_, s, e, hr, h1, h2⟩ := ha.1
      obtain ⟨_, t, f, hr', h1', h2'⟩ := hb.1
      have hy : y = -x := by omega
      subst hy
      have hs := sum_read0 (e := e) (f := f) h1 h2 h1' h2'
      have hst : (s && t) = false := by
        by_cases hn : x < 0
        · rw [h2' (by omega)]; simp
        · rw [h2 (by omega)]; rfl
      rw [hst] at hs
      refine ⟨0, ?_, by rw [h0]; exact FC_zero⟩
      show Ieee.double.add a b = _
      unfold Format.add
      rw [hr, hr', hs]
      show some (Ieee.double.nearest false 0 _) = _
      unfold Format.nearest
      simp
      decide +kernel
  · obtain ⟨r, h1, h2⟩ := FI_add ha.1 hb.1 h
    exact ⟨r, h1, h2, fun e => absurd e h0⟩

theorem FC_cadd {a b c d : Nat} {x y u v : Int} (ha : FC a x) (hb : FC b y) (hc : FC c u) (hd : FC d v)
    (h1 : (x + u).natAbs < 9007199254740992) (h2 : (y + v).natAbs < 9007199254740992) :
    ∃ re im, cSumBits .add .f64 a b c d = some (re, im) ∧ FC re (x + u) ∧ FC im (y + v) := by
  obtain ⟨p, hp, fp⟩ := FC_add ha hc h1
  obtain ⟨q, hq, fq⟩ := FC_add hb hd h2
  exact ⟨p, q, by simp [cSumBits, hp, hq], fp, fq⟩

/-- The lower and the upper half of a page's k-th word, and the word. -/
def lo (f : Nat → Nat) (k : Nat) : Nat := f (8 * k) + 256 * f (8 * k + 1) + 65536 * f (8 * k + 2) + 16777216 * f (8 * k + 3)
def hi (f : Nat → Nat) (k : Nat) : Nat := f (8 * k + 4) + 256 * f (8 * k + 5) + 65536 * f (8 * k + 6) + 16777216 * f (8 * k + 7)
def wd (f : Nat → Nat) (k : Nat) : Nat := lo f k + 4294967296 * hi f k

/-- Of the first n words: the sum's parts. -/
def sre (f : Nat → Nat) : Nat → Int
  | 0 => 0
  | n + 1 => sre f n + tre (n % 4) (lo f n) (hi f n)
def sim (f : Nat → Nat) : Nat → Int
  | 0 => 0
  | n + 1 => sim f n + tim (n % 4) (lo f n) (hi f n)


theorem Bytes.lo {f : Nat → Nat} (h : Bytes f) (k : Nat) : lo f k < 4294967296 := by
  have h0 := h (8 * k); have h1 := h (8 * k + 1); have h2 := h (8 * k + 2); have h3 := h (8 * k + 3)
  unfold Go.Proofs.YtpjlmmiceiionaaDoor.lo; omega
theorem Bytes.hi {f : Nat → Nat} (h : Bytes f) (k : Nat) : hi f k < 4294967296 := by
  have h0 := h (8 * k + 4); have h1 := h (8 * k + 5); have h2 := h (8 * k + 6); have h3 := h (8 * k + 7)
  unfold Go.Proofs.YtpjlmmiceiionaaDoor.hi; omega
theorem wd_lo {f : Nat → Nat} (h : Bytes f) (k : Nat) : wd f k % 4294967296 = lo f k := by have := h.lo k; unfold wd; omega
theorem wd_hi {f : Nat → Nat} (h : Bytes f) (k : Nat) : wd f k / 4294967296 = hi f k := by have := h.lo k; unfold wd; omega
theorem wd_lt {f : Nat → Nat} (h : Bytes f) (k : Nat) : wd f k < 18446744073709551616 := by have := h.lo k; have := h.hi k; unfold wd; omega

theorem tre_le {K : Nat} {x y : Int} {A : Nat} (hx : x.natAbs ≤ A) (hy : y.natAbs ≤ A) : (tre K x y).natAbs ≤ A := by
  unfold tre; split <;> omega
theorem tim_le {K : Nat} {x y : Int} {A : Nat} (hx : x.natAbs ≤ A) (hy : y.natAbs ≤ A) : (tim K x y).natAbs ≤ A := by
  unfold tim; split <;> omega

theorem sre_le {f : Nat → Nat} (h : Bytes f) : ∀ n, (sre f n).natAbs ≤ n * 4294967296
  | 0 => by simp [sre]
  | n + 1 => by
    have h1 := sre_le h n
    have h2 := h.lo n; have h3 := h.hi n
    have h4 : (tre (n % 4) (lo f n) (hi f n)).natAbs ≤ 4294967296 := tre_le (by omega) (by omega)
    unfold sre; omega
theorem sim_le {f : Nat → Nat} (h : Bytes f) : ∀ n, (sim f n).natAbs ≤ n * 4294967296
  | 0 => by simp [sim]
  | n + 1 => by
    have h1 := sim_le h n
    have h2 := h.lo n; have h3 := h.hi n
    have h4 : (tim (n % 4) (lo f n) (hi f n)).natAbs ≤ 4294967296 := tim_le (by omega) (by omega)
    unfold sim; omega

theorem tre_sub (K : Nat) (x y u v : Int) : tre K (x - u) (y - v) = tre K x y - tre K u v := by unfold tre; split <;> omega
theorem tim_sub (K : Nat) (x y u v : Int) : tim K (x - u) (y - v) = tim K x y - tim K u v := by unfold tim; split <;> omega

/-- Two pages that differ in the k-th word alone. -/
theorem sre_other {f g : Nat → Nat} {k : Nat} (h : ∀ j, j ≠ k → lo g j = lo f j ∧ hi g j = hi f j) : ∀ n, sre g n = sre f n + if k < n then tre (k % 4) (lo g k) (hi g k) - tre (k % 4) (lo f k) (hi f k) else 0
  | 0 => by simp [sre]
  | n + 1 => by
    have ih := sre_other h n
    unfold sre
    by_cases e : n = k
    · subst e
      rw [ih, if_neg (by omega), if_pos (by omega)]; omega
    · rw [ih, (h n e).1, (h n e).2]
      by_cases hk : k < n
      · rw [if_pos hk, if_pos (by omega)]; omega
      · rw [if_neg hk, if_neg (by omega)]; omega
theorem sim_other {f g : Nat → Nat} {k : Nat} (h : ∀ j, j ≠ k → lo g j = lo f j ∧ hi g j = hi f j) : ∀ n, sim g n = sim f n + if k < n then tim (k % 4) (lo g k) (hi g k) - tim (k % 4) (lo f k) (hi f k) else 0
  | 0 => by simp [sim]
  | n + 1 => by
    have ih := sim_other h n
    unfold sim
    by_cases e : n = k
    · subst e
      rw [ih, if_neg (by omega), if_pos (by omega)]; omega
    · rw [ih, (h n e).1, (h n e).2]
      by_cases hk : k < n
      · rw [if_pos hk, if_pos (by omega)]; omega
      · rw [if_neg hk, if_neg (by omega)]; omega

/-- 'or' of numbers whose bits don't meet. -/
theorem or_high (a c n : Nat) (ha : a < 2 ^ n) (h : a + c * 2 ^ n < 18446744073709551616) : bits .or .u64 (a : Int) ((c * 2 ^ n : Nat) : Int) = ((a + c * 2 ^ n : Nat) : Int) := by
  rw [u64_or_nat _ _ (by omega) (by omega)]
  have := Nat.shiftLeft_add_eq_or_of_lt ha c
  rw [Nat.shiftLeft_eq] at this
  rw [Nat.or_comm, ← this, Nat.add_comm]
set_option maxRecDepth 10000 in
theorem or_low (a c : Nat) (hc : c < 256) (h : a * 256 + c < 18446744073709551616) : bits .or .u64 ((a * 256 : Nat) : Int) (c : Int) = ((a * 256 + c : Nat) : Int) := by
  rw [u64_or_nat _ _ (by omega) (by omega)]
  have := Nat.shiftLeft_add_eq_or_of_lt (i := 8) (b := c) (by simpa using hc) a
  rw [Nat.shiftLeft_eq, show (2 : Nat) ^ 8 = 256 from rfl] at this
  rw [← this]

theorem BS.drew {w : World} {b o m : Nat} {f : Nat → Nat} (h : BS w b o m f) : BS w.drew b o m f := ⟨h.lt, h.cell, h.frz, h.byte⟩
theorem BS.drewN {w : World} {b o m : Nat} {f : Nat → Nat} (h : BS w b o m f) (q : Nat) : BS (w.drewN q) b o m f := ⟨h.lt, h.cell, h.frz, h.byte⟩

end Go.Proofs.YtpjlmmiceiionaaDoor
