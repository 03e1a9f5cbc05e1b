/- desc: what was encoded is decoded; the stages. -/
import Derived.Test.YtcbciehffgaapaaEC
namespace Go.Proofs.Ytcbciehffgaapaa
open Go.RowKit

theorem one_cases (b : Bool) : (b = false ∧ oneN b = 0) ∨ (b = true ∧ oneN b = 1) := by cases b <;> simp [oneN]
theorem bt_of {u i : Nat} {b : Bool} (h : u / 2 ^ i % 2 = oneN b) : btN u i = b := by
  have := bt_one u i
  rw [h] at this
  rcases one_cases (btN u i) with ⟨h1, h2⟩ | ⟨h1, h2⟩ <;> rcases one_cases b with ⟨h3, h4⟩ | ⟨h3, h4⟩
  · rw [h1, h3]
  · omega
  · omega
  · rw [h1, h3]

/-- The parts of the word of a descriptor that may be, but none. -/
theorem wrd_back {s l k : Int} {a : Nat} {r q x : Bool} {f : Int} (h : dchk s l k a r q x f = 0) (hk : k ≠ 0) :
    wrd k a r q x f < 18446744073709551616 ∧ btN (wrd k a r q x f) 0 = true ∧ btN (wrd k a r q x f) 1 = (k != 2) ∧ adN (wrd k a r q x f) = a ∧ btN (wrd k a r q x f) 6 = r ∧ btN (wrd k a r q x f) 7 = q ∧ btN (wrd k a r q x f) 8 = x ∧
      ((fieldN (wrd k a r q x f) 55 4 : Nat) : Int) = f := by
  obtain ⟨c, ha, hc⟩ := chk_addr h
  obtain ⟨_, _, ⟨hf0, hf1⟩, _⟩ := chk_ok h
  have o1 := one_lt (k != 2)
  have o2 := one_lt r
  have o3 := one_lt q
  have o4 := one_lt x
  obtain ⟨u, hu⟩ : ∃ u, wrd k a r q x f = u := ⟨_, rfl⟩
  have hu' := hu
  unfold wrd at hu'
  rw [if_neg hk] at hu'
  rw [hu]
  obtain ⟨g, rfl⟩ : ∃ g : Nat, f = g := ⟨f.toNat, by omega⟩
  rw [Int.toNat_natCast] at hu'
  clear h hu hk
  refine ⟨by omega, bt_of (b := true) (by show u / 2 ^ 0 % 2 = 1; omega), bt_of (by omega), ?_, bt_of (by omega), bt_of (by omega), bt_of (by omega), ?_⟩
  · unfold adN fieldN; omega
  · unfold fieldN; omega
theorem kd_back {s l k : Int} {a : Nat} {r q x : Bool} {f : Int} (h : dchk s l k a r q x f = 0) (hk : k ≠ 0) (u : Nat) (hu : btN u 1 = (k != 2)) : kdN l u = k := by
  obtain ⟨_, h2, _, h4, _⟩ := chk_ok h
  have h2 := isKd_iff.1 h2
  unfold kdN
  rw [hu]
  unfold fm at h4
  split at h4
  · cases h4
  rcases (by omega : k = 1 ∨ k = 2 ∨ k = 3) with rfl | rfl | rfl
  · rw [if_neg (by decide)]
    rw [if_pos rfl] at h4
    simp only [Bool.and_eq_true, decide_eq_true_eq] at h4
    rw [if_neg h4.1]
  · rw [if_pos (by decide)]
  · rw [if_neg (by decide)]
    rw [if_neg (by decide), if_neg (by decide), if_pos rfl] at h4
    rw [if_pos (of_decide_eq_true h4)]
/-- Of the kind None all is 0. -/
theorem none_zero {s l : Int} {a : Nat} {r q x : Bool} {f : Int} (h : dchk s l 0 a r q x f = 0) : a = 0 ∧ r = false ∧ q = false ∧ x = false ∧ f = 0 := by
  obtain ⟨_, _, _, h4, _⟩ := chk_ok h
  unfold fm at h4
  split at h4
  · cases h4
  rw [if_neg (by decide), if_neg (by decide), if_neg (by decide)] at h4
  simp only [Bool.and_eq_true, decide_eq_true_eq, Bool.not_eq_true'] at h4
  obtain ⟨⟨⟨_, h5⟩, ⟨⟨h6, h7⟩, h8⟩⟩, h9⟩ := h4
  exact ⟨by omega, h6, h7, h8, h9⟩
/-- What was encoded is decoded. -/
theorem dec_back {s l k : Int} {a : Nat} {r q x : Bool} {f : Int} (h : dchk s l k a r q x f = 0) :
    ∃ u, wrd k a r q x f = u ∧ u < 18446744073709551616 ∧ decE s l u = 0 ∧ (btN u 0 = (k != 0)) ∧ cond (decG s l u) (kdN l u) 0 = k ∧ cond (decG s l u) (adN u) 0 = a ∧ cond (decG s l u) (btN u 6) false = r ∧ cond (decG s l u) (btN u 7) false = q ∧ cond (decG s l u) (btN u 8) false = x ∧ ((cond (decG s l u) (fieldN u 55 4) 0 : Nat) : Int) = f := by
  obtain ⟨hp, _⟩ := chk_ok h
  refine ⟨_, rfl, ?_⟩
  by_cases hk : k = 0
  · subst hk
    obtain ⟨rfl, rfl, rfl, rfl, rfl⟩ := none_zero h
    rw [show wrd 0 0 false false false 0 = 0 from rfl]
    have d := dec_not s l 0 hp (by decide)
    rw [d.1, d.2]
    exact ⟨by decide, rfl, by decide, rfl, rfl, rfl, rfl, rfl, rfl⟩
  · obtain ⟨b1, b2, b3, b4, b5, b6, b7, b8⟩ := wrd_back h hk
    have b9 := kd_back h hk _ b3
    have hw : wrd k a r q x f = dencN s l k a r q x f := by unfold dencN; rw [if_pos h]
    have e1 : dchk s l (kdN l (wrd k a r q x f)) (adN (wrd k a r q x f)) (btN (wrd k a r q x f) 6) (btN (wrd k a r q x f) 7) (btN (wrd k a r q x f) 8) (fieldN (wrd k a r q x f) 55 4 : Nat) = 0 := by rw [b4, b5, b6, b7, b8, b9]; exact h
    have e2 : dencN s l (kdN l (wrd k a r q x f)) (adN (wrd k a r q x f)) (btN (wrd k a r q x f) 6) (btN (wrd k a r q x f) 7) (btN (wrd k a r q x f) 8) (fieldN (wrd k a r q x f) 55 4 : Nat) = wrd k a r q x f := by rw [b4, b5, b6, b7, b8, b9]; exact hw.symm
    have g := (dec_iff s l _ b1 hp b2).1 ⟨e1, e2⟩
    have g2 := dec_good s l _ g
    rw [g, g2.1, b2]
    refine ⟨b1, rfl, ?_, b9, b4, b5, b6, b7, b8⟩
    symm
    rw [bne_iff_ne]; exact hk
/-- Two unlike ones have unlike words. -/
theorem wrd_like {s l k a r q x f k' a' r' q' x' f'} (h : dchk s l k a r q x f = 0) (h' : dchk s l k' a' r' q' x' f' = 0) :
    (((wrd k a r q x f : Nat) : Int) == ((wrd k' a' r' q' x' f' : Nat) : Int)) = ((k == k') && ((a : Int) == (a' : Int)) && ((r == r') && (q == q') && (x == x')) && (f == f')) := by
  by_cases c : wrd k a r q x f = wrd k' a' r' q' x' f'
  · obtain ⟨u, e, _, _, _, a1, a2, a3, a4, a5, a6⟩ := dec_back h
    obtain ⟨u', e', _, _, _, b1, b2, b3, b4, b5, b6⟩ := dec_back h'
    have : u = u' := by rw [← e, ← e', c]
    subst this
    rw [← a1, ← a2, ← a3, ← a4, ← a5, ← a6, ← b1, ← b2, ← b3, ← b4, ← b5, ← b6]
    have c' : wrd (cond (decG s l u) (kdN l u) 0) (cond (decG s l u) (adN u) 0) (cond (decG s l u) (btN u 6) false) (cond (decG s l u) (btN u 7) false) (cond (decG s l u) (btN u 8) false) ((cond (decG s l u) (fieldN u 55 4) 0 : Nat) : Int) = wrd (cond (decG s l u) (kdN l u) 0) (cond (decG s l u) (adN u) 0) (cond (decG s l u) (btN u 6) false) (cond (decG s l u) (btN u 7) false) (cond (decG s l u) (btN u 8) false) ((cond (decG s l u) (fieldN u 55 4) 0 : Nat) : Int) := rfl
    simp
  · have c1 : (((wrd k a r q x f : Nat) : Int) == ((wrd k' a' r' q' x' f' : Nat) : Int)) = false := by rw [beq_eq_false_iff_ne]; omega
    rw [c1]
    symm
    rw [Bool.eq_false_iff]
    intro e
    simp only [Bool.and_eq_true, beq_iff_eq] at e
    obtain ⟨⟨⟨e1, e2⟩, ⟨⟨e3, e4⟩, e5⟩⟩, e6⟩ := e
    have e2' : a = a' := by omega
    exact c (by rw [e1, e2', e3, e4, e5, e6])

/-- A word with the lowest bit set, and without it. -/
theorem or_one (u : Nat) : btN (u ||| 1) 0 = true := by
  rw [bt_iff, Nat.pow_zero, Nat.div_one]
  have := Nat.or_mod_two_pow (a := u) (b := 1) (n := 1)
  rw [Nat.pow_one] at this
  rw [this]
  have h2 : u % 2 = 0 ∨ u % 2 = 1 := by omega
  rcases h2 with h | h <;> rw [h] <;> rfl
theorem or_one_lt (u : Nat) (hu : u < 18446744073709551616) : u ||| 1 < 18446744073709551616 := Nat.or_lt_two_pow (n := 64) hu (by decide)
theorem not_one (u : Nat) : btN (u &&& 18446744073709551614) 0 = false := by
  have h : (u &&& 18446744073709551614) % 2 ^ 1 = 0 := by
    rw [Nat.and_mod_two_pow, show (18446744073709551614 : Nat) % 2 ^ 1 = 0 from by decide, Nat.and_zero]
  have b := bt_iff (u &&& 18446744073709551614) 0
  cases hb : btN (u &&& 18446744073709551614) 0
  · rfl
  · have := b.1 hb
    rw [Nat.pow_zero, Nat.div_one] at this
    omega
/-- What Decode tells of a word with the lowest bit. -/
theorem dec_vals (s l : Int) (u : Nat) (hp : isPl s l = true) (h0 : btN u 0 = true) : (decG s l u = true ∧ decE s l u = 0) ∨ (decG s l u = false ∧ (decE s l u = 2 ∨ decE s l u = 4)) := by
  cases h : decG s l u
  · refine .inr ⟨rfl, ?_⟩
    rw [dec_bad s l u hp h0 h]
    split
    · exact .inl rfl
    · exact .inr rfl
  · exact .inl ⟨rfl, (dec_good s l u h).1⟩
theorem dec_stages (l : Int) (u : Nat) (h1 : 0 ≤ l) (h2 : l ≤ 3) (h0 : btN u 0 = true) : (decG 2 l u = true → decG 1 l u = true) ∧ (decG 1 l u = true → decG 2 l u = false → decE 2 l u = 2 ∧ topS 2 ≤ adN u) := by
  have p1 : isPl 1 l = true := isPl_iff.2 ⟨by decide, by decide, h1, h2⟩
  have p2 : isPl 2 l = true := isPl_iff.2 ⟨by decide, by decide, h1, h2⟩
  have t1 : topS 1 = 1099511627776 := rfl
  have t2 : topS 2 = 4294967296 := rfl
  refine ⟨fun g => ?_, fun g g' => ?_⟩
  · unfold decG outG at g ⊢
    rw [p2, h0] at g
    rw [p1, h0]
    simp only [Bool.and_eq_true, Bool.not_eq_true', decide_eq_false_iff_not] at g ⊢
    obtain ⟨⟨⟨⟨_, g1⟩, g2⟩, g3⟩, g4⟩ := g
    exact ⟨⟨⟨⟨⟨trivial, trivial⟩, g1⟩, g2⟩, by omega⟩, g4⟩
  · have b := dec_bad 2 l u p2 h0 g'
    unfold decG outG at g g'
    rw [p2, h0] at g'
    rw [p1, h0] at g
    simp only [Bool.and_eq_true, Bool.not_eq_true', decide_eq_false_iff_not] at g
    obtain ⟨⟨⟨⟨_, g1⟩, g2⟩, g3⟩, g4⟩ := g
    rw [g1, g2, decide_eq_false g4] at g'
    by_cases c : topS 2 ≤ adN u
    · rw [b, if_pos ⟨⟨g1, g2⟩, c⟩]; exact ⟨rfl, c⟩
    · rw [decide_eq_false c] at g'; cases g'

end Go.Proofs.Ytcbciehffgaapaa
