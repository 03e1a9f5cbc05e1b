/- Joined: E7, E8, E9, EA, EB, EC, EG. -/
import Derived.Test.YtcankhnnikhblaaGreatDoorJE
/- desc: the document's Check. -/
namespace Go.Proofs.YtcankhnnikhblaaGreatDoor
open Go.RowKit

section
variable {s l k : Int} {a : Nat} {r q x : Bool} {f : Int}
theorem chk1 (h : ¬ (isPl s l = true ∧ isKd k = true ∧ 0 ≤ f ∧ f ≤ 15)) : dchk s l k a r q x f = 1 := by unfold dchk; rw [if_pos h]
theorem chk4 (h : isPl s l = true ∧ isKd k = true ∧ 0 ≤ f ∧ f ≤ 15) (h1 : fm l k a r q x f = false) : dchk s l k a r q x f = 4 := by unfold dchk; rw [if_neg (fun c => c h), if_pos h1]
theorem chk2 (h : isPl s l = true ∧ isKd k = true ∧ 0 ≤ f ∧ f ≤ 15) (h1 : fm l k a r q x f = true) (h2 : topS s ≤ a) : dchk s l k a r q x f = 2 := by unfold dchk; rw [if_neg (fun c => c h), if_neg (by rw [h1]; decide), if_pos h2]
theorem chk3 (h : isPl s l = true ∧ isKd k = true ∧ 0 ≤ f ∧ f ≤ 15) (h1 : fm l k a r q x f = true) (h2 : ¬ topS s ≤ a) (h3 : a % unitN l k ≠ 0) : dchk s l k a r q x f = 3 := by unfold dchk; rw [if_neg (fun c => c h), if_neg (by rw [h1]; decide), if_neg h2, if_pos h3]
theorem chk0 (h : isPl s l = true ∧ isKd k = true ∧ 0 ≤ f ∧ f ≤ 15) (h1 : fm l k a r q x f = true) (h2 : ¬ topS s ≤ a) (h3 : a % unitN l k = 0) : dchk s l k a r q x f = 0 := by unfold dchk; rw [if_neg (fun c => c h), if_neg (by rw [h1]; decide), if_neg h2, if_neg (fun c => c h3)]
theorem isKd_iff : isKd k = true ↔ 0 ≤ k ∧ k ≤ 3 := by unfold isKd; exact decide_eq_true_iff
end
end Go.Proofs.YtcankhnnikhblaaGreatDoor

/- desc: the document's Check, of what is well formed; all of it. -/
namespace Go.Proofs.YtcankhnnikhblaaGreatDoor
open Go.RowKit

end Go.Proofs.YtcankhnnikhblaaGreatDoor

/- desc: the document's Encode. -/
namespace Go.Proofs.YtcankhnnikhblaaGreatDoor
open Go.RowKit

theorem u64_id {z : Int} (h : 0 ≤ z) (h' : z < 18446744073709551616) : IntKind.u64.wrap z = z := by
  simp [IntKind.wrap, IntKind.bits, IntKind.signed]; omega
theorem sum_wrap {m1 m2 m3 m4 a g : Nat} (h1 : (m1 : Int) ≤ 2) (h2 : (m2 : Int) ≤ 64) (h3 : (m3 : Int) ≤ 128) (h4 : (m4 : Int) ≤ 256) (h5 : a < topS 1) (h6 : (g : Int) ≤ 15) :
    IntKind.u64.wrap (IntKind.u64.wrap (IntKind.u64.wrap (IntKind.u64.wrap (IntKind.u64.wrap (IntKind.u64.wrap (1 + (m1 : Int)) + m2) + m3) + m4) + a) + (g : Int) * 36028797018963968) = ((1 + m1 + m2 + m3 + m4 + a + g * 36028797018963968 : Nat) : Int) := by
  have h5' : a < 1099511627776 := h5
  rw [u64_id (z := 1 + (m1 : Int)) (by omega) (by omega)]
  rw [u64_id (z := 1 + (m1 : Int) + m2) (by omega) (by omega)]
  rw [u64_id (z := 1 + (m1 : Int) + m2 + m3) (by omega) (by omega)]
  rw [u64_id (z := 1 + (m1 : Int) + m2 + m3 + m4) (by omega) (by omega)]
  rw [u64_id (z := 1 + (m1 : Int) + m2 + m3 + m4 + a) (by omega) (by omega)]
  rw [u64_id (by omega) (by omega)]
  omega

end Go.Proofs.YtcankhnnikhblaaGreatDoor

/- desc: the document's split of a word. -/
namespace Go.Proofs.YtcankhnnikhblaaGreatDoor
open Go.RowKit

theorem and_addr (u : Nat) : u &&& 281474976706560 = adN u := by
  have e1 : (u &&& 281474976706560) % 2 ^ 12 = 0 := by
    rw [Nat.and_mod_two_pow, show (281474976706560 : Nat) % 2 ^ 12 = 0 from by decide +kernel, Nat.and_zero]
  have e2 : (u &&& 281474976706560) / 2 ^ 12 = u / 2 ^ 12 % 2 ^ 36 := by
    rw [← Nat.shiftRight_eq_div_pow, Nat.shiftRight_and_distrib, show (281474976706560 : Nat) >>> 12 = 2 ^ 36 - 1 from by decide +kernel, Nat.and_two_pow_sub_one_eq_mod, Nat.shiftRight_eq_div_pow]
  unfold adN fieldN
  rw [← e2]
  omega
/-- A word without its address. -/
def lowW (u : Nat) : Nat := u - adN u
theorem and_low_word (u : Nat) (hu : u < 18446744073709551616) : u &&& (18446744073709551615 - 281474976706560) = lowW u := by
  rw [show (18446744073709551615 - 281474976706560 : Nat) = 18446462598732845055 from by decide +kernel]
  have e1 : (u &&& 18446462598732845055) % 2 ^ 12 = u % 2 ^ 12 := by
    rw [Nat.and_mod_two_pow, show (18446462598732845055 : Nat) % 2 ^ 12 = 2 ^ 12 - 1 from by decide +kernel, Nat.and_two_pow_sub_one_eq_mod, Nat.mod_mod]
  have e2 : (u &&& 18446462598732845055) / 2 ^ 12 % 2 ^ 36 = 0 := by
    rw [← Nat.shiftRight_eq_div_pow, Nat.shiftRight_and_distrib, Nat.and_mod_two_pow, show (18446462598732845055 : Nat) >>> 12 % 2 ^ 36 = 0 from by decide +kernel, Nat.and_zero]
  have e3 : (u &&& 18446462598732845055) / 2 ^ 48 = u / 2 ^ 48 := by
    rw [← Nat.shiftRight_eq_div_pow, Nat.shiftRight_and_distrib, show (18446462598732845055 : Nat) >>> 48 = 2 ^ 16 - 1 from by decide +kernel, Nat.and_two_pow_sub_one_eq_mod, Nat.shiftRight_eq_div_pow]
    omega
  unfold lowW adN fieldN
  generalize u &&& 18446462598732845055 = y at *
  omega

theorem bt_cast (u i : Nat) : ((fieldN u i 1 : Nat) : Int) = ((oneN (btN u i) : Nat) : Int) := by
  have := field_lt u i 1
  unfold btN oneN
  by_cases c : fieldN u i 1 = 1
  · rw [c]; rfl
  · rw [if_neg (by simpa using c)]; omega
theorem one_eq (b : Bool) : (((oneN b : Nat) : Int) == 1) = b := by cases b <;> rfl
theorem one_two (b : Bool) : (((2 * oneN b : Nat) : Int) != 0) = b := by cases b <;> rfl
theorem one_zero (b : Bool) : (((oneN b : Nat) : Int) == 0) = !b := by cases b <;> rfl

/-- A word's low bits, asked by and. -/
theorem ask_at (u i : Nat) (z : Int) (hz : z = (u : Int) / 2 ^ i) (hu : u < 18446744073709551616) : bits .and .u64 z 1 = ((oneN (btN u i) : Nat) : Int) := by
  rw [hz, ← bt_cast]
  exact field_and u i 1 hu (by decide)
theorem ask_0 (u : Nat) (hu : u < 18446744073709551616) : bits .and .u64 (u : Int) 1 = ((oneN (btN u 0) : Nat) : Int) := ask_at u 0 _ (by simp) hu
theorem ask_1 (u : Nat) (hu : u < 18446744073709551616) : bits .and .u64 (u : Int) 2 = ((2 * oneN (btN u 1) : Nat) : Int) := by
  have h := u64_and_nat u 2 hu (by decide)
  refine h.trans ?_
  have e1 : (u &&& 2) % 2 ^ 1 = 0 := by rw [Nat.and_mod_two_pow, show (2 : Nat) % 2 ^ 1 = 0 from rfl, Nat.and_zero]
  have e2 : (u &&& 2) / 2 ^ 1 = u / 2 ^ 1 % 2 ^ 1 := by
    rw [← Nat.shiftRight_eq_div_pow, Nat.shiftRight_and_distrib, show (2 : Nat) >>> 1 = 2 ^ 1 - 1 from rfl, Nat.and_two_pow_sub_one_eq_mod, Nat.shiftRight_eq_div_pow]
  have b := bt_cast u 1
  unfold fieldN at b
  omega

end Go.Proofs.YtcankhnnikhblaaGreatDoor

/- desc: a word and its parts, by reckoning. -/
namespace Go.Proofs.YtcankhnnikhblaaGreatDoor
open Go.RowKit

theorem bt_one (u i : Nat) : oneN (btN u i) = u / 2 ^ i % 2 := by
  have := bt_cast u i
  unfold fieldN at this
  omega
theorem bt_iff (u i : Nat) : btN u i = true ↔ u / 2 ^ i % 2 = 1 := by
  have := bt_one u i
  cases h : btN u i
  · rw [h] at this; simp [oneN] at this; simp; omega
  · rw [h] at this; simp [oneN] at this; simp; omega
theorem kd_ne (l : Int) (u : Nat) : kdN l u = 1 ∨ kdN l u = 2 ∨ kdN l u = 3 := by unfold kdN; split; exact .inr (.inl rfl); split; exact .inr (.inr rfl); exact .inl rfl
theorem kd_two (l : Int) (u : Nat) : (kdN l u != 2) = btN u 1 := by
  unfold kdN
  cases btN u 1
  · rfl
  · rw [if_neg (by decide)]; split <;> rfl

/-- The word of the parts, and what may not be, is the word. -/
theorem wrd_parts (l : Int) (u : Nat) (hu : u < 18446744073709551616) (h0 : btN u 0 = true) :
    wrd (kdN l u) (adN u) (btN u 6) (btN u 7) (btN u 8) (fieldN u 55 4 : Nat) + 4 * fieldN u 2 4 + 512 * fieldN u 9 3 + 281474976710656 * fieldN u 48 7 + 576460752303423488 * fieldN u 59 5 = u := by
  have k0 : kdN l u ≠ 0 := by rcases kd_ne l u with h | h | h <;> rw [h] <;> decide
  unfold wrd
  rw [if_neg k0, kd_two, bt_one, bt_one, bt_one, bt_one, Int.toNat_natCast]
  have e0 := (bt_iff u 0).1 h0
  unfold adN fieldN
  omega
theorem rsv_iff (u : Nat) : rsv u = false ↔ fieldN u 2 4 = 0 ∧ fieldN u 9 3 = 0 ∧ fieldN u 48 7 = 0 ∧ fieldN u 59 5 = 0 := by
  unfold rsv bsN
  simp [Bool.or_eq_false_iff, and_assoc]
theorem wrd_iff (l : Int) (u : Nat) (hu : u < 18446744073709551616) (h0 : btN u 0 = true) :
    wrd (kdN l u) (adN u) (btN u 6) (btN u 7) (btN u 8) (fieldN u 55 4 : Nat) = u ↔ rsv u = false := by
  have := wrd_parts l u hu h0
  rw [rsv_iff]
  generalize wrd (kdN l u) (adN u) (btN u 6) (btN u 7) (btN u 8) (fieldN u 55 4 : Nat) = z at *
  omega

theorem low_lt (u : Nat) (hu : u < 18446744073709551616) : lowW u < 18446744073709551616 := by unfold lowW; omega
theorem low_ad (u : Nat) : adN (lowW u) = 0 := by unfold lowW adN fieldN; omega
theorem low_at (u i n : Nat) (h : i + n ≤ 12 ∨ 48 ≤ i) : fieldN (lowW u) i n = fieldN u i n := by
  have e : lowW u = u % 4096 + u / 281474976710656 * 281474976710656 := by unfold lowW adN fieldN; omega
  rw [e]
  unfold fieldN
  rcases h with h | h
  · have d : ∃ z, 281474976710656 = 2 ^ i * (2 ^ n * z) := ⟨2 ^ (48 - i - n), by rw [← Nat.pow_add, ← Nat.pow_add, show i + (n + (48 - i - n)) = 48 by omega]⟩
    have d2 : ∃ z, 4096 = 2 ^ i * (2 ^ n * z) := ⟨2 ^ (12 - i - n), by rw [← Nat.pow_add, ← Nat.pow_add, show i + (n + (12 - i - n)) = 12 by omega]⟩
    obtain ⟨z, hz⟩ := d
    obtain ⟨y, hy⟩ := d2
    have a1 : ∀ v t : Nat, (v + 2 ^ i * (2 ^ n * t)) / 2 ^ i % 2 ^ n = v / 2 ^ i % 2 ^ n := fun v t => by
      rw [Nat.add_mul_div_left _ _ (Nat.two_pow_pos i), Nat.add_mul_mod_self_left]
    have b1 : u / 281474976710656 * 281474976710656 = 2 ^ i * (2 ^ n * (z * (u / 281474976710656))) := by
      rw [Nat.mul_comm, hz]
      generalize u / (2 ^ i * (2 ^ n * z)) = t
      rw [Nat.mul_assoc, Nat.mul_assoc]
    rw [b1, a1]
    have b2 : u = u % 4096 + 2 ^ i * (2 ^ n * (y * (u / 4096))) := by
      have : 4096 * (u / 4096) = 2 ^ i * (2 ^ n * (y * (u / 4096))) := by
        rw [← Nat.mul_assoc (2 ^ n), ← Nat.mul_assoc (2 ^ i), ← hy]
      omega
    have b3 := a1 (u % 4096) (y * (u / 4096))
    rw [← b2] at b3
    exact b3.symm
  · obtain ⟨j, rfl⟩ : ∃ j, i = 48 + j := ⟨i - 48, by omega⟩
    rw [Nat.pow_add, ← Nat.div_div_eq_div_mul, ← Nat.div_div_eq_div_mul]
    congr 2
    omega
theorem low_bt (u i : Nat) (h : i < 12) : btN (lowW u) i = btN u i := by unfold btN; rw [low_at u i 1 (by omega)]
theorem low_kd (l : Int) (u : Nat) : kdN l (lowW u) = kdN l u := by unfold kdN; rw [low_bt u 1 (by decide)]
theorem low_rsv (u : Nat) : rsv (lowW u) = rsv u := by
  unfold rsv bsN
  rw [low_at u 2 4 (by decide), low_at u 9 3 (by decide), low_at u 48 7 (by decide), low_at u 59 5 (by decide)]
theorem fm_addr {l k : Int} (hk : k = 1 ∨ k = 2 ∨ k = 3) (a a' : Int) (r q x : Bool) (f : Int) : fm l k a r q x f = fm l k a' r q x f := by
  unfold fm
  rcases hk with rfl | rfl | rfl <;> simp
theorem low_fm (l : Int) (u : Nat) : fmW l (lowW u) = fmW l u := by
  unfold fmW
  rw [low_kd, low_bt u 6 (by decide), low_bt u 7 (by decide), low_bt u 8 (by decide), low_at u 55 4 (by decide)]
  exact fm_addr (kd_ne l u) _ _ _ _ _ _

/-- What refuses the parts of a word. -/
theorem chk_parts (s l : Int) (u : Nat) (hp : isPl s l = true) :
    dchk s l (kdN l u) (adN u) (btN u 6) (btN u 7) (btN u 8) (fieldN u 55 4 : Nat) = 0 ↔ fmW l u = true ∧ ¬ topS s ≤ adN u ∧ adN u % unitN l (kdN l u) = 0 := by
  have f1 := field_lt u 55 4
  have hh : isPl s l = true ∧ isKd (kdN l u) = true ∧ 0 ≤ ((fieldN u 55 4 : Nat) : Int) ∧ ((fieldN u 55 4 : Nat) : Int) ≤ 15 :=
    ⟨hp, by rcases kd_ne l u with h | h | h <;> rw [h] <;> rfl, by omega, by omega⟩
  unfold dchk fmW
  rw [if_neg (fun c => c hh)]
  generalize fm l (kdN l u) (adN u : Nat) (btN u 6) (btN u 7) (btN u 8) (fieldN u 55 4 : Nat) = fo
  cases fo
  · simp
  · rw [if_neg (by decide)]
    by_cases c : topS s ≤ adN u
    · rw [if_pos c]; simp [c]
    · rw [if_neg c]
      by_cases d : adN u % unitN l (kdN l u) = 0
      · rw [if_neg (fun k => k d)]; simp [c, d]
      · rw [if_pos d]; simp [d]
def encW (s l : Int) (u : Nat) : Nat := dencN s l (kdN l u) (adN u) (btN u 6) (btN u 7) (btN u 8) (fieldN u 55 4 : Nat)
def chkW (s l : Int) (u : Nat) : Int := dchk s l (kdN l u) (adN u) (btN u 6) (btN u 7) (btN u 8) (fieldN u 55 4 : Nat)
/-- A word that is there: its parts are a descriptor, and its word. -/
theorem dec_iff (s l : Int) (u : Nat) (hu : u < 18446744073709551616) (hp : isPl s l = true) (h0 : btN u 0 = true) :
    (chkW s l u = 0 ∧ encW s l u = u) ↔ decG s l u = true := by
  unfold decG outG
  rw [hp, h0]
  have h1 : chkW s l u = 0 ↔ _ := chk_parts s l u hp
  have h2 := wrd_iff l u hu h0
  constructor
  · rintro ⟨a, b⟩
    have c := h1.1 a
    unfold encW dencN at b
    rw [if_pos (show dchk s l (kdN l u) (adN u) (btN u 6) (btN u 7) (btN u 8) (fieldN u 55 4 : Nat) = 0 from a)] at b
    have d := h2.1 b
    rw [d, c.1, decide_eq_false c.2.1, decide_eq_false (fun k => k c.2.2)]
    rfl
  · intro a
    simp only [Bool.true_and, Bool.and_eq_true, Bool.not_eq_true', decide_eq_false_iff_not] at a
    obtain ⟨⟨⟨a1, a2⟩, a3⟩, a4⟩ := a
    have c := h1.2 ⟨a2, a3, Decidable.not_not.1 a4⟩
    refine ⟨c, ?_⟩
    unfold encW dencN
    rw [if_pos (show dchk s l (kdN l u) (adN u) (btN u 6) (btN u 7) (btN u 8) (fieldN u 55 4 : Nat) = 0 from c)]
    exact h2.2 a1
theorem top_pos {s l : Int} (hp : isPl s l = true) : 0 < topS s := by
  have := isPl_iff.1 hp
  rcases (by omega : s = 1 ∨ s = 2) with rfl | rfl <;> decide
theorem low_iff (s l : Int) (u : Nat) (hu : u < 18446744073709551616) (hp : isPl s l = true) (h0 : btN u 0 = true) :
    (chkW s l (lowW u) = 0 ∧ encW s l (lowW u) = lowW u) ↔ (rsv u = false ∧ fmW l u = true) := by
  have e := dec_iff s l (lowW u) (low_lt u hu) hp (by rw [low_bt u 0 (by decide)]; exact h0)
  rw [e]
  unfold decG outG
  rw [hp, low_bt u 0 (by decide), h0, low_rsv, low_fm, low_ad, Nat.zero_mod, decide_eq_false (by have := top_pos hp; omega)]
  cases rsv u <;> cases fmW l u <;> simp

end Go.Proofs.YtcankhnnikhblaaGreatDoor

/- desc: the document's Decode. -/
namespace Go.Proofs.YtcankhnnikhblaaGreatDoor
open Go.RowKit

theorem dec_none (s l : Int) (u : Nat) (hp : isPl s l = false) : decG s l u = false ∧ decE s l u = 1 := by
  unfold decG decE outG outE
  rw [hp]
  exact ⟨rfl, rfl⟩
theorem dec_not (s l : Int) (u : Nat) (hp : isPl s l = true) (h0 : btN u 0 = false) : decG s l u = false ∧ decE s l u = 0 := by
  unfold decG decE outG outE
  rw [hp, h0]
  exact ⟨rfl, rfl⟩
theorem dec_good (s l : Int) (u : Nat) (h : decG s l u = true) : decE s l u = 0 ∧ isPl s l = true ∧ btN u 0 = true := by
  unfold decG outG at h
  unfold decE
  simp only [Bool.and_eq_true, Bool.not_eq_true'] at h
  obtain ⟨⟨⟨⟨⟨h1, h2⟩, h3⟩, h4⟩, h5⟩, h6⟩ := h
  rw [h1, h2, h3, h4, h5, h6]
  exact ⟨rfl, rfl, rfl⟩
theorem dec_bad (s l : Int) (u : Nat) (hp : isPl s l = true) (h0 : btN u 0 = true) (h : decG s l u = false) :
    decE s l u = if (rsv u = false ∧ fmW l u = true) ∧ topS s ≤ adN u then 2 else 4 := by
  unfold decG outG at h
  unfold decE outE
  rw [hp, h0] at *
  cases h1 : rsv u
  · cases h2 : fmW l u
    · simp
    · rw [h1, h2] at h
      by_cases c : topS s ≤ adN u
      · simp [c]
      · rw [decide_eq_false c] at h ⊢
        simp at h
        simp [c, h]
  · simp

end Go.Proofs.YtcankhnnikhblaaGreatDoor

/- desc: what was encoded is decoded; the stages. -/
namespace Go.Proofs.YtcankhnnikhblaaGreatDoor
open Go.RowKit

theorem one_cases (b : Bool) : (b = false ∧ oneN b = 0) ∨ (b = true ∧ oneN b = 1) := by cases b <;> simp [oneN]
theorem bt_of {u i : Nat} {b : Bool} (h : u / 2 ^ i % 2 = oneN b) : btN u i = b := by
  have := bt_one u i
  rw [h] at this
  rcases one_cases (btN u i) with ⟨h1, h2⟩ | ⟨h1, h2⟩ <;> rcases one_cases b with ⟨h3, h4⟩ | ⟨h3, h4⟩
  · rw [h1, h3]
  · omega
  · omega
  · rw [h1, h3]

/-- The parts of the word of a descriptor that may be, but none. -/
theorem wrd_back {s l k : Int} {a : Nat} {r q x : Bool} {f : Int} (h : dchk s l k a r q x f = 0) (hk : k ≠ 0) :
    wrd k a r q x f < 18446744073709551616 ∧ btN (wrd k a r q x f) 0 = true ∧ btN (wrd k a r q x f) 1 = (k != 2) ∧ adN (wrd k a r q x f) = a ∧ btN (wrd k a r q x f) 6 = r ∧ btN (wrd k a r q x f) 7 = q ∧ btN (wrd k a r q x f) 8 = x ∧
      ((fieldN (wrd k a r q x f) 55 4 : Nat) : Int) = f := by
  obtain ⟨c, ha, hc⟩ := chk_addr h
  obtain ⟨_, _, ⟨hf0, hf1⟩, _⟩ := chk_ok h
  have o1 := one_lt (k != 2)
  have o2 := one_lt r
  have o3 := one_lt q
  have o4 := one_lt x
  obtain ⟨u, hu⟩ : ∃ u, wrd k a r q x f = u := ⟨_, rfl⟩
  have hu' := hu
  unfold wrd at hu'
  rw [if_neg hk] at hu'
  rw [hu]
  obtain ⟨g, rfl⟩ : ∃ g : Nat, f = g := ⟨f.toNat, by omega⟩
  rw [Int.toNat_natCast] at hu'
  clear h hu hk
  refine ⟨by omega, bt_of (b := true) (by show u / 2 ^ 0 % 2 = 1; omega), bt_of (by omega), ?_, bt_of (by omega), bt_of (by omega), bt_of (by omega), ?_⟩
  · unfold adN fieldN; omega
  · unfold fieldN; omega
theorem kd_back {s l k : Int} {a : Nat} {r q x : Bool} {f : Int} (h : dchk s l k a r q x f = 0) (hk : k ≠ 0) (u : Nat) (hu : btN u 1 = (k != 2)) : kdN l u = k := by
  obtain ⟨_, h2, _, h4, _⟩ := chk_ok h
  have h2 := isKd_iff.1 h2
  unfold kdN
  rw [hu]
  unfold fm at h4
  split at h4
  · cases h4
  rcases (by omega : k = 1 ∨ k = 2 ∨ k = 3) with rfl | rfl | rfl
  · rw [if_neg (by decide)]
    rw [if_pos rfl] at h4
    simp only [Bool.and_eq_true, decide_eq_true_eq] at h4
    rw [if_neg h4.1]
  · rw [if_pos (by decide)]
  · rw [if_neg (by decide)]
    rw [if_neg (by decide), if_neg (by decide), if_pos rfl] at h4
    rw [if_pos (of_decide_eq_true h4)]
/-- Of the kind None all is 0. -/
theorem none_zero {s l : Int} {a : Nat} {r q x : Bool} {f : Int} (h : dchk s l 0 a r q x f = 0) : a = 0 ∧ r = false ∧ q = false ∧ x = false ∧ f = 0 := by
  obtain ⟨_, _, _, h4, _⟩ := chk_ok h
  unfold fm at h4
  split at h4
  · cases h4
  rw [if_neg (by decide), if_neg (by decide), if_neg (by decide)] at h4
  simp only [Bool.and_eq_true, decide_eq_true_eq, Bool.not_eq_true'] at h4
  obtain ⟨⟨⟨_, h5⟩, ⟨⟨h6, h7⟩, h8⟩⟩, h9⟩ := h4
  exact ⟨by omega, h6, h7, h8, h9⟩
/-- What was encoded is decoded. -/
theorem dec_back {s l k : Int} {a : Nat} {r q x : Bool} {f : Int} (h : dchk s l k a r q x f = 0) :
    ∃ u, wrd k a r q x f = u ∧ u < 18446744073709551616 ∧ decE s l u = 0 ∧ (btN u 0 = (k != 0)) ∧ cond (decG s l u) (kdN l u) 0 = k ∧ cond (decG s l u) (adN u) 0 = a ∧ cond (decG s l u) (btN u 6) false = r ∧ cond (decG s l u) (btN u 7) false = q ∧ cond (decG s l u) (btN u 8) false = x ∧ ((cond (decG s l u) (fieldN u 55 4) 0 : Nat) : Int) = f := by
  obtain ⟨hp, _⟩ := chk_ok h
  refine ⟨_, rfl, ?_⟩
  by_cases hk : k = 0
  · subst hk
    obtain ⟨rfl, rfl, rfl, rfl, rfl⟩ := none_zero h
    rw [show wrd 0 0 false false false 0 = 0 from rfl]
    have d := dec_not s l 0 hp (by decide)
    rw [d.1, d.2]
    exact ⟨by decide, rfl, by decide, rfl, rfl, rfl, rfl, rfl, rfl⟩
  · obtain ⟨b1, b2, b3, b4, b5, b6, b7, b8⟩ := wrd_back h hk
    have b9 := kd_back h hk _ b3
    have hw : wrd k a r q x f = dencN s l k a r q x f := by unfold dencN; rw [if_pos h]
    have e1 : dchk s l (kdN l (wrd k a r q x f)) (adN (wrd k a r q x f)) (btN (wrd k a r q x f) 6) (btN (wrd k a r q x f) 7) (btN (wrd k a r q x f) 8) (fieldN (wrd k a r q x f) 55 4 : Nat) = 0 := by rw [b4, b5, b6, b7, b8, b9]; exact h
    have e2 : dencN s l (kdN l (wrd k a r q x f)) (adN (wrd k a r q x f)) (btN (wrd k a r q x f) 6) (btN (wrd k a r q x f) 7) (btN (wrd k a r q x f) 8) (fieldN (wrd k a r q x f) 55 4 : Nat) = wrd k a r q x f := by rw [b4, b5, b6, b7, b8, b9]; exact hw.symm
    have g := (dec_iff s l _ b1 hp b2).1 ⟨e1, e2⟩
    have g2 := dec_good s l _ g
    rw [g, g2.1, b2]
    refine ⟨b1, rfl, ?_, b9, b4, b5, b6, b7, b8⟩
    symm
    rw [bne_iff_ne]; exact hk
/-- Two unlike ones have unlike words. -/
theorem wrd_like {s l k a r q x f k' a' r' q' x' f'} (h : dchk s l k a r q x f = 0) (h' : dchk s l k' a' r' q' x' f' = 0) :
    (((wrd k a r q x f : Nat) : Int) == ((wrd k' a' r' q' x' f' : Nat) : Int)) = ((k == k') && ((a : Int) == (a' : Int)) && ((r == r') && (q == q') && (x == x')) && (f == f')) := by
  by_cases c : wrd k a r q x f = wrd k' a' r' q' x' f'
  · obtain ⟨u, e, _, _, _, a1, a2, a3, a4, a5, a6⟩ := dec_back h
    obtain ⟨u', e', _, _, _, b1, b2, b3, b4, b5, b6⟩ := dec_back h'
    have : u = u' := by rw [← e, ← e', c]
    subst this
    rw [← a1, ← a2, ← a3, ← a4, ← a5, ← a6, ← b1, ← b2, ← b3, ← b4, ← b5, ← b6]
    have c' : wrd (cond (decG s l u) (kdN l u) 0) (cond (decG s l u) (adN u) 0) (cond (decG s l u) (btN u 6) false) (cond (decG s l u) (btN u 7) false) (cond (decG s l u) (btN u 8) false) ((cond (decG s l u) (fieldN u 55 4) 0 : Nat) : Int) = wrd (cond (decG s l u) (kdN l u) 0) (cond (decG s l u) (adN u) 0) (cond (decG s l u) (btN u 6) false) (cond (decG s l u) (btN u 7) false) (cond (decG s l u) (btN u 8) false) ((cond (decG s l u) (fieldN u 55 4) 0 : Nat) : Int) := rfl
    simp
  · have c1 : (((wrd k a r q x f : Nat) : Int) == ((wrd k' a' r' q' x' f' : Nat) : Int)) = false := by rw [beq_eq_false_iff_ne]; omega
    rw [c1]
    symm
    rw [Bool.eq_false_iff]
    intro e
    simp only [Bool.and_eq_true, beq_iff_eq] at e
    obtain ⟨⟨⟨e1, e2⟩, ⟨⟨e3, e4⟩, e5⟩⟩, e6⟩ := e
    have e2' : a = a' := by omega
    exact c (by rw [e1, e2', e3, e4, e5, e6])

/-- A word with the lowest bit set, and without it. -/
theorem or_one (u : Nat) : btN (u ||| 1) 0 = true := by
  rw [bt_iff, Nat.pow_zero, Nat.div_one]
  have := Nat.or_mod_two_pow (a := u) (b := 1) (n := 1)
  rw [Nat.pow_one] at this
  rw [this]
  have h2 : u % 2 = 0 ∨ u % 2 = 1 := by omega
  rcases h2 with h | h <;> rw [h] <;> rfl
theorem or_one_lt (u : Nat) (hu : u < 18446744073709551616) : u ||| 1 < 18446744073709551616 := Nat.or_lt_two_pow (n := 64) hu (by decide)
theorem not_one (u : Nat) : btN (u &&& 18446744073709551614) 0 = false := by
  have h : (u &&& 18446744073709551614) % 2 ^ 1 = 0 := by
    rw [Nat.and_mod_two_pow, show (18446744073709551614 : Nat) % 2 ^ 1 = 0 from by decide, Nat.and_zero]
  have b := bt_iff (u &&& 18446744073709551614) 0
  cases hb : btN (u &&& 18446744073709551614) 0
  · rfl
  · have := b.1 hb
    rw [Nat.pow_zero, Nat.div_one] at this
    omega
/-- What Decode tells of a word with the lowest bit. -/
theorem dec_vals (s l : Int) (u : Nat) (hp : isPl s l = true) (h0 : btN u 0 = true) : (decG s l u = true ∧ decE s l u = 0) ∨ (decG s l u = false ∧ (decE s l u = 2 ∨ decE s l u = 4)) := by
  cases h : decG s l u
  · refine .inr ⟨rfl, ?_⟩
    rw [dec_bad s l u hp h0 h]
    split
    · exact .inl rfl
    · exact .inr rfl
  · exact .inl ⟨rfl, (dec_good s l u h).1⟩
theorem dec_stages (l : Int) (u : Nat) (h1 : 0 ≤ l) (h2 : l ≤ 3) (h0 : btN u 0 = true) : (decG 2 l u = true → decG 1 l u = true) ∧ (decG 1 l u = true → decG 2 l u = false → decE 2 l u = 2 ∧ topS 2 ≤ adN u) := by
  have p1 : isPl 1 l = true := isPl_iff.2 ⟨by decide, by decide, h1, h2⟩
  have p2 : isPl 2 l = true := isPl_iff.2 ⟨by decide, by decide, h1, h2⟩
  have t1 : topS 1 = 1099511627776 := rfl
  have t2 : topS 2 = 4294967296 := rfl
  refine ⟨fun g => ?_, fun g g' => ?_⟩
  · unfold decG outG at g ⊢
    rw [p2, h0] at g
    rw [p1, h0]
    simp only [Bool.and_eq_true, Bool.not_eq_true', decide_eq_false_iff_not] at g ⊢
    obtain ⟨⟨⟨⟨_, g1⟩, g2⟩, g3⟩, g4⟩ := g
    exact ⟨⟨⟨⟨⟨trivial, trivial⟩, g1⟩, g2⟩, by omega⟩, g4⟩
  · have b := dec_bad 2 l u p2 h0 g'
    unfold decG outG at g g'
    rw [p2, h0] at g'
    rw [p1, h0] at g
    simp only [Bool.and_eq_true, Bool.not_eq_true', decide_eq_false_iff_not] at g
    obtain ⟨⟨⟨⟨_, g1⟩, g2⟩, g3⟩, g4⟩ := g
    rw [g1, g2, decide_eq_false g4] at g'
    by_cases c : topS 2 ≤ adN u
    · rw [b, if_pos ⟨⟨g1, g2⟩, c⟩]; exact ⟨rfl, c⟩
    · rw [decide_eq_false c] at g'; cases g'

end Go.Proofs.YtcankhnnikhblaaGreatDoor
