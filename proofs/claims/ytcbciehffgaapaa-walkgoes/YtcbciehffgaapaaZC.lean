/- Two addresses of one leaf's span; the readers of words. -/
import Derived.Test.YtcbciehffgaapaaZB
namespace Go.Proofs.Ytcbciehffgaapaa
open Go.RowKit

/-- What is put into a word's lowest bits. -/
theorem low_bits (u low k : Nat) (hu : u < 18446744073709551616) (hl : low < 18446744073709551616) (hk : k ≤ 39) :
    ∃ A B O : Nat, bits .andNot .u64 (u : Int) ((2 ^ k - 1 : Nat) : Int) = (A : Int) ∧ bits .and .u64 (low : Int) ((2 ^ k - 1 : Nat) : Int) = (B : Int) ∧ bits .or .u64 (A : Int) (B : Int) = (O : Int) ∧ O / 2 ^ k = u / 2 ^ k ∧ O < 18446744073709551616 := by
  have hK : 2 ^ k ≤ 549755813888 := Nat.pow_le_pow_right (n := 2) (by decide) (show k ≤ 39 by omega)
  have hp : 0 < 2 ^ k := Nat.two_pow_pos k
  have hW : (18446744073709551616 : Nat) = 2 ^ (64 - k) * 2 ^ k := by rw [← Nat.pow_add, show 64 - k + k = 64 by omega]
  have e1 := u64_andNot_nat u (2 ^ k - 1) hu (by omega)
  have e2 := u64_and_nat low (2 ^ k - 1) hl (by omega)
  rw [Nat.and_two_pow_sub_one_eq_mod] at e2
  have hM : 18446744073709551615 - (2 ^ k - 1) = (2 ^ (64 - k) - 1) * 2 ^ k := by rw [Nat.sub_mul, ← hW]; omega
  have hB : low % 2 ^ k < 2 ^ k := Nat.mod_lt _ hp
  have hA : u &&& (18446744073709551615 - (2 ^ k - 1)) < 18446744073709551616 := Nat.lt_of_le_of_lt Nat.and_le_left hu
  have e3 := u64_or_nat (u &&& (18446744073709551615 - (2 ^ k - 1))) (low % 2 ^ k) hA (by omega)
  refine ⟨_, _, _, e1, e2, e3, ?_, Nat.or_lt_two_pow (n := 64) hA (by omega)⟩
  rw [Nat.or_div_two_pow, Nat.div_eq_of_lt hB, Nat.or_zero, Nat.and_div_two_pow, hM, Nat.mul_div_cancel _ hp, Nat.and_two_pow_sub_one_eq_mod, Nat.mod_eq_of_lt]
  rw [Nat.div_lt_iff_lt_mul hp, ← hW]
  exact hu
theorem idx_same {u o i j : Nat} (h : o / 2 ^ sh (j : Int) = u / 2 ^ sh (j : Int)) (hi : i ≤ j) (hj : j ≤ 3) : idx u (i : Int) = idx o (i : Int) := by
  unfold idx
  rw [if_pos (isLv_iff.2 (by omega)), if_pos (isLv_iff.2 (by omega))]
  unfold fieldN
  have e : sh (i : Int) = sh (j : Int) + 9 * (j - i) := by unfold sh; omega
  rw [e, Nat.pow_add, ← Nat.div_div_eq_div_mul, ← Nat.div_div_eq_div_mul, h]
/-- Walks that go by the same places are the same. -/
theorem goW_same (s : Int) (u o : Nat) (rd : Nat → Nat × Bool) : ∀ n l t, (∀ i, l ≤ i → i < l + (goW s u rd n l t).2.2 → idx u (i : Int) = idx o (i : Int)) → goW s o rd n l t = goW s u rd n l t
  | 0, _, _, _ => rfl
  | n + 1, l, t, h => by
    cases ho : (rd (atN t u l)).2
    · rw [goW_stop ho] at h ⊢
      have e : atN t o l = atN t u l := by unfold atN; rw [h l (Nat.le_refl _) (by show l < l + 1; omega)]
      rw [goW_stop (by rw [e]; exact ho)]
    · by_cases hk : (dvN s l (rd (atN t u l)).1).k = 1
      · rw [goW_on ho hk] at h ⊢
        have e : atN t o l = atN t u l := by unfold atN; rw [h l (Nat.le_refl _) (by show l < l + (_ + 1); omega)]
        rw [goW_on (by rw [e]; exact ho) (by rw [e]; exact hk), e]
        rw [goW_same s u o rd n (l + 1) _ (fun i h1 h2 => h i (by omega) (by show i < l + (_ + 1); omega))]
      · rw [goW_end ho hk] at h ⊢
        have e : atN t o l = atN t u l := by unfold atN; rw [h l (Nat.le_refl _) (by show l < l + 1; omega)]
        rw [goW_end (by rw [e]; exact ho) (by rw [e]; exact hk), e]
/-- They come out as far from each other as they are. -/
theorem out_far (u o a : Nat) (j : Nat) (k : Int) (hk : k = 3 ∨ k = 2) (hj : j ≤ 3) (h : o / 2 ^ sh (j : Int) = u / 2 ^ sh (j : Int)) :
    IntKind.u64.wrap ((outN o j k a : Int) - (outN u j k a : Int)) = IntKind.u64.wrap ((o : Int) - (u : Int)) := by
  unfold outN
  rw [if_pos (by omega), if_pos (by omega)]
  unfold inN
  have e : spn (j : Int) = 2 ^ sh (j : Int) := by unfold spn; rw [if_pos (isLv_iff.2 (by omega))]
  have hp : 0 < 2 ^ sh (j : Int) := Nat.two_pow_pos _
  rw [e, if_neg (by omega), if_neg (by omega)]
  generalize 2 ^ sh (j : Int) = K at *
  have d1 := Nat.div_add_mod o K
  have d2 := Nat.div_add_mod u K
  rw [h] at d1
  generalize K * (u / K) = X at *
  generalize o % K = y at *
  generalize u % K = z at *
  simp only [IntKind.wrap, IntKind.bits, IntKind.signed]
  simp
  omega

theorem rdW_word {A X : List Nat} (wx : ∀ y ∈ X, y < 18446744073709551616) (stop : Bool) (p : Nat) : (rdW A X stop p).1 < 18446744073709551616 := by
  unfold rdW
  cases h : findW A X p with
  | none => show 0 < _; decide
  | some x => exact wx x (findW_mem h)

/-- The words lie in the block b. -/
def IW (b : Nat) (va vx : Value) (A X : List Nat) (w : World) : Prop := w.heap[b]? = some (.cells #[va, vx] 26) ∧ UW w va A ∧ UW w vx X
theorem IW.kp {b : Nat} {va vx : Value} {A X : List Nat} {w w' : World} (h : IW b va vx A X w) (k : Kp w w') : IW b va vx A X w' := ⟨(k.block _ (lt_of_row h.1)).trans h.1, h.2.1.kp k, h.2.2.kp k⟩
theorem IW.cells {b : Nat} {va vx : Value} {A X : List Nat} {w : World} (h : IW b va vx A X w) : w.cell? ⟨b, 0, none⟩ = some va ∧ w.cell? ⟨b, 1, none⟩ = some vx := by
  refine ⟨?_, ?_⟩
  · rw [cell_of_row _ _ 0 _ _ _ h.1]; rfl
  · rw [cell_of_row _ _ 1 _ _ _ h.1]; rfl

set_option maxHeartbeats 2000000 in
theorem readN (b : Nat) (va vx : Value) (A X : List Nat) (lA : A.length ≤ 100) (lX : X.length ≤ 100) (wx : ∀ y ∈ X, y < 18446744073709551616) (fa : ∀ g, va.ownBlock = some g → g < b) (fx : ∀ g, vx.ownBlock = some g → g < b) :
    RD (b + 1) 22 #[.pointer (some ⟨b, 0, none⟩)] (rdW A X false) (fun _ => False) (fun _ w => IW b va vx A X w) where
  fn := ⟨_, Try.func22, rfl, by decide⟩
  lt b h := h.elim
  word p := rdW_word wx false p
  keep m w w' h k := ⟨(k.block _ (by omega)).trans h.1, h.2.1.below k (fun g e => by have := fa g e; omega), h.2.2.below k (fun g e => by have := fx g e; omega)⟩
  size m w h := lt_of_row h.1
  call n w p h hn hp := by
    show Calls Try.prog 22 #[.int .u64 (p : Int), .pointer (some ⟨b, 0, none⟩)] w fun e w' => e = .returned (.tuple #[.int .u64 ((rdW A X false p).1 : Int), .bool (rdW A X false p).2]) ∧ IW b va vx A X w' ∧ Fr (fun _ => False) w w'
    obtain ⟨na, n1, ca, rfl⟩ := h.2.1.shape
    obtain ⟨nx, n2, cx, rfl⟩ := h.2.2.shape
    have c := read_any h.2.1 h.2.2 p false lA lX
    have c0 := h.cells.1
    have c1 := h.cells.2
    have HI : Hid (IW b (.slice na n1 ca) (.slice nx n2 cx) A X w) := h
    obtain ⟨x, hx⟩ : ∃ x, x = (rdW A X false p).1 := ⟨_, rfl⟩
    obtain ⟨ok, hok⟩ : ∃ ok, ok = (rdW A X false p).2 := ⟨_, rfl⟩
    rw [← hx, ← hok] at c ⊢
    clear h hx hok fa fx wx
    go_enter Try.func22, Try.ntmps22
    go_wp2_with fail
    with_reducible refine c.mono ?_
    rintro e w1 ⟨rfl, K⟩
    have HK : Hid (Kp w w1) := K
    clear K c
    go_wp2
    go_ret2
    exact ⟨rfl, HI.out.kp HK.out, HK.out.fr _⟩

end Go.Proofs.Ytcbciehffgaapaa
