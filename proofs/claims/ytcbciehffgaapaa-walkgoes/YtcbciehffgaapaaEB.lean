/- desc: a word and its parts, by reckoning. -/
import Derived.Test.YtcbciehffgaapaaEA
namespace Go.Proofs.Ytcbciehffgaapaa
open Go.RowKit

theorem bt_one (u i : Nat) : oneN (btN u i) = u / 2 ^ i % 2 := by
  have := bt_cast u i
  unfold fieldN at this
  omega
theorem bt_iff (u i : Nat) : btN u i = true ↔ u / 2 ^ i % 2 = 1 := by
  have := bt_one u i
  cases h : btN u i
  · rw [h] at this; simp [oneN] at this; simp; omega
  · rw [h] at this; simp [oneN] at this; simp; omega
theorem kd_ne (l : Int) (u : Nat) : kdN l u = 1 ∨ kdN l u = 2 ∨ kdN l u = 3 := by unfold kdN; split; exact .inr (.inl rfl); split; exact .inr (.inr rfl); exact .inl rfl
theorem kd_two (l : Int) (u : Nat) : (kdN l u != 2) = btN u 1 := by
  unfold kdN
  cases btN u 1
  · rfl
  · rw [if_neg (by decide)]; split <;> rfl

/-- The word of the parts, and what may not be, is the word. -/
theorem wrd_parts (l : Int) (u : Nat) (hu : u < 18446744073709551616) (h0 : btN u 0 = true) :
    wrd (kdN l u) (adN u) (btN u 6) (btN u 7) (btN u 8) (fieldN u 55 4 : Nat) + 4 * fieldN u 2 4 + 512 * fieldN u 9 3 + 281474976710656 * fieldN u 48 7 + 576460752303423488 * fieldN u 59 5 = u := by
  have k0 : kdN l u ≠ 0 := by rcases kd_ne l u with h | h | h <;> rw [h] <;> decide
  unfold wrd
  rw [if_neg k0, kd_two, bt_one, bt_one, bt_one, bt_one, Int.toNat_natCast]
  have e0 := (bt_iff u 0).1 h0
  unfold adN fieldN
  omega
theorem rsv_iff (u : Nat) : rsv u = false ↔ fieldN u 2 4 = 0 ∧ fieldN u 9 3 = 0 ∧ fieldN u 48 7 = 0 ∧ fieldN u 59 5 = 0 := by
  unfold rsv bsN
  simp [Bool.or_eq_false_iff, and_assoc]
theorem wrd_iff (l : Int) (u : Nat) (hu : u < 18446744073709551616) (h0 : btN u 0 = true) :
    wrd (kdN l u) (adN u) (btN u 6) (btN u 7) (btN u 8) (fieldN u 55 4 : Nat) = u ↔ rsv u = false := by
  have := wrd_parts l u hu h0
  rw [rsv_iff]
  generalize wrd (kdN l u) (adN u) (btN u 6) (btN u 7) (btN u 8) (fieldN u 55 4 : Nat) = z at *
  omega

theorem low_lt (u : Nat) (hu : u < 18446744073709551616) : lowW u < 18446744073709551616 := by unfold lowW; omega
theorem low_ad (u : Nat) : adN (lowW u) = 0 := by unfold lowW adN fieldN; omega
theorem low_at (u i n : Nat) (h : i + n ≤ 12 ∨ 48 ≤ i) : fieldN (lowW u) i n = fieldN u i n := by
  have e : lowW u = u % 4096 + u / 281474976710656 * 281474976710656 := by unfold lowW adN fieldN; omega
  rw [e]
  unfold fieldN
  rcases h with h | h
  · have d : ∃ z, 281474976710656 = 2 ^ i * (2 ^ n * z) := ⟨2 ^ (48 - i - n), by rw [← Nat.pow_add, ← Nat.pow_add, show i + (n + (48 - i - n)) = 48 by omega]⟩
    have d2 : ∃ z, 4096 = 2 ^ i * (2 ^ n * z) := ⟨2 ^ (12 - i - n), by rw [← Nat.pow_add, ← Nat.pow_add, show i + (n + (12 - i - n)) = 12 by omega]⟩
    obtain ⟨z, hz⟩ := d
    obtain ⟨y, hy⟩ := d2
    have a1 : ∀ v t : Nat, (v + 2 ^ i * (2 ^ n * t)) / 2 ^ i % 2 ^ n = v / 2 ^ i % 2 ^ n := fun v t => by
      rw [Nat.add_mul_div_left _ _ (Nat.two_pow_pos i), Nat.add_mul_mod_self_left]
    have b1 : u / 281474976710656 * 281474976710656 = 2 ^ i * (2 ^ n * (z * (u / 281474976710656))) := by
      rw [Nat.mul_comm, hz]
      generalize u / (2 ^ i * (2 ^ n * z)) = t
      rw [Nat.mul_assoc, Nat.mul_assoc]
    rw [b1, a1]
    have b2 : u = u % 4096 + 2 ^ i * (2 ^ n * (y * (u / 4096))) := by
      have : 4096 * (u / 4096) = 2 ^ i * (2 ^ n * (y * (u / 4096))) := by
        rw [← Nat.mul_assoc (2 ^ n), ← Nat.mul_assoc (2 ^ i), ← hy]
      omega
    have b3 := a1 (u % 4096) (y * (u / 4096))
    rw [← b2] at b3
    exact b3.symm
  · obtain ⟨j, rfl⟩ : ∃ j, i = 48 + j := ⟨i - 48, by omega⟩
    rw [Nat.pow_add, ← Nat.div_div_eq_div_mul, ← Nat.div_div_eq_div_mul]
    congr 2
    omega
theorem low_bt (u i : Nat) (h : i < 12) : btN (lowW u) i = btN u i := by unfold btN; rw [low_at u i 1 (by omega)]
theorem low_kd (l : Int) (u : Nat) : kdN l (lowW u) = kdN l u := by unfold kdN; rw [low_bt u 1 (by decide)]
theorem low_rsv (u : Nat) : rsv (lowW u) = rsv u := by
  unfold rsv bsN
  rw [low_at u 2 4 (by decide), low_at u 9 3 (by decide), low_at u 48 7 (by decide), low_at u 59 5 (by decide)]
theorem fm_addr {l k : Int} (hk : k = 1 ∨ k = 2 ∨ k = 3) (a a' : Int) (r q x : Bool) (f : Int) : fm l k a r q x f = fm l k a' r q x f := by
  unfold fm
  rcases hk with rfl | rfl | rfl <;> simp
theorem low_fm (l : Int) (u : Nat) : fmW l (lowW u) = fmW l u := by
  unfold fmW
  rw [low_kd, low_bt u 6 (by decide), low_bt u 7 (by decide), low_bt u 8 (by decide), low_at u 55 4 (by decide)]
  exact fm_addr (kd_ne l u) _ _ _ _ _ _

/-- What refuses the parts of a word. -/
theorem chk_parts (s l : Int) (u : Nat) (hp : isPl s l = true) :
    dchk s l (kdN l u) (adN u) (btN u 6) (btN u 7) (btN u 8) (fieldN u 55 4 : Nat) = 0 ↔ fmW l u = true ∧ ¬ topS s ≤ adN u ∧ adN u % unitN l (kdN l u) = 0 := by
  have f1 := field_lt u 55 4
  have hh : isPl s l = true ∧ isKd (kdN l u) = true ∧ 0 ≤ ((fieldN u 55 4 : Nat) : Int) ∧ ((fieldN u 55 4 : Nat) : Int) ≤ 15 :=
    ⟨hp, by rcases kd_ne l u with h | h | h <;> rw [h] <;> rfl, by omega, by omega⟩
  unfold dchk fmW
  rw [if_neg (fun c => c hh)]
  generalize fm l (kdN l u) (adN u : Nat) (btN u 6) (btN u 7) (btN u 8) (fieldN u 55 4 : Nat) = fo
  cases fo
  · simp
  · rw [if_neg (by decide)]
    by_cases c : topS s ≤ adN u
    · rw [if_pos c]; simp [c]
    · rw [if_neg c]
      by_cases d : adN u % unitN l (kdN l u) = 0
      · rw [if_neg (fun k => k d)]; simp [c, d]
      · rw [if_pos d]; simp [d]
def encW (s l : Int) (u : Nat) : Nat := dencN s l (kdN l u) (adN u) (btN u 6) (btN u 7) (btN u 8) (fieldN u 55 4 : Nat)
def chkW (s l : Int) (u : Nat) : Int := dchk s l (kdN l u) (adN u) (btN u 6) (btN u 7) (btN u 8) (fieldN u 55 4 : Nat)
/-- A word that is there: its parts are a descriptor, and its word. -/
theorem dec_iff (s l : Int) (u : Nat) (hu : u < 18446744073709551616) (hp : isPl s l = true) (h0 : btN u 0 = true) :
    (chkW s l u = 0 ∧ encW s l u = u) ↔ decG s l u = true := by
  unfold decG outG
  rw [hp, h0]
  have h1 : chkW s l u = 0 ↔ _ := chk_parts s l u hp
  have h2 := wrd_iff l u hu h0
  constructor
  · rintro ⟨a, b⟩
    have c := h1.1 a
    unfold encW dencN at b
    rw [if_pos (show dchk s l (kdN l u) (adN u) (btN u 6) (btN u 7) (btN u 8) (fieldN u 55 4 : Nat) = 0 from a)] at b
    have d := h2.1 b
    rw [d, c.1, decide_eq_false c.2.1, decide_eq_false (fun k => k c.2.2)]
    rfl
  · intro a
    simp only [Bool.true_and, Bool.and_eq_true, Bool.not_eq_true', decide_eq_false_iff_not] at a
    obtain ⟨⟨⟨a1, a2⟩, a3⟩, a4⟩ := a
    have c := h1.2 ⟨a2, a3, Decidable.not_not.1 a4⟩
    refine ⟨c, ?_⟩
    unfold encW dencN
    rw [if_pos (show dchk s l (kdN l u) (adN u) (btN u 6) (btN u 7) (btN u 8) (fieldN u 55 4 : Nat) = 0 from c)]
    exact h2.2 a1
theorem top_pos {s l : Int} (hp : isPl s l = true) : 0 < topS s := by
  have := isPl_iff.1 hp
  rcases (by omega : s = 1 ∨ s = 2) with rfl | rfl <;> decide
theorem low_iff (s l : Int) (u : Nat) (hu : u < 18446744073709551616) (hp : isPl s l = true) (h0 : btN u 0 = true) :
    (chkW s l (lowW u) = 0 ∧ encW s l (lowW u) = lowW u) ↔ (rsv u = false ∧ fmW l u = true) := by
  have e := dec_iff s l (lowW u) (low_lt u hu) hp (by rw [low_bt u 0 (by decide)]; exact h0)
  rw [e]
  unfold decG outG
  rw [hp, low_bt u 0 (by decide), h0, low_rsv, low_fm, low_ad, Nat.zero_mod, decide_eq_false (by have := top_pos hp; omega)]
  cases rsv u <;> cases fmW l u <;> simp

end Go.Proofs.Ytcbciehffgaapaa
