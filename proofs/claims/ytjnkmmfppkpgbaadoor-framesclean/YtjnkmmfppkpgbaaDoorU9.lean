/- buddy.Buddy: Give. -/
import Derived.Test.YtjnkmmfppkpgbaaDoorU8
namespace Go.Proofs.YtjnkmmfppkpgbaaDoor
open Go.RowKit

theorem xor_one (j : Nat) : j ^^^ 1 = if j % 2 = 0 then j + 1 else j - 1 := by
  have h1 : (j ^^^ 1) / 2 = j / 2 := by
    apply Nat.eq_of_testBit_eq
    intro b
    rw [← Nat.testBit_succ, ← Nat.testBit_succ, Nat.testBit_xor, Nat.testBit_succ 1]
    simp
  have h2 : ((j ^^^ 1) % 2 = 1) ↔ ¬ (j % 2 = 1) := by
    have a : decide ((j ^^^ 1) % 2 = 1) = !decide (j % 2 = 1) := by
      rw [← Nat.testBit_zero, Nat.testBit_xor, Nat.testBit_zero, Nat.testBit_zero]; simp
    by_cases c : j % 2 = 1
    · rw [decide_eq_true c] at a
      have := of_decide_eq_false (show decide ((j ^^^ 1) % 2 = 1) = false from a)
      exact ⟨fun h => absurd h this, fun h => absurd c h⟩
    · rw [decide_eq_false c] at a
      have := of_decide_eq_true (show decide ((j ^^^ 1) % 2 = 1) = true from a)
      exact ⟨fun _ => c, fun _ => this⟩
  split <;> omega
theorem xor_blk (j o : Nat) : (j * 2 ^ o) ^^^ 2 ^ o = (j ^^^ 1) * 2 ^ o := by
  have := Nat.shiftLeft_xor_distrib (a := j) (b := 1) (i := o)
  rw [Nat.shiftLeft_eq, Nat.shiftLeft_eq, Nat.shiftLeft_eq, Nat.one_mul] at this
  exact this.symm

set_option maxHeartbeats 4000000 in
set_option maxRecDepth 1000000 in
theorem give_arg_walk (p : Nat) (x o : Int) (w : World)
    (cO : Calls Tryd.prog 68 #[.pointer (some ⟨p, 0, none⟩), .int .i64 x, .int .i64 o] w fun e w' => e = .returned (.bool false) ∧ w' = w) :
    Calls Tryd.prog 55 #[.pointer (some ⟨p, 0, none⟩), .int .i64 x, .int .i64 o] w fun e w' => e = .returned (.int .i64 1) ∧ w' = w := by
  go_enter Tryd.func55, Tryd.ntmps55
  go_wp2_with fail
  refine scope_again 0 (fun _ _ => False) (fun _ _ => 0) rfl (fun pass => ?_) (fun _ _ h => h.elim)
  clear pass
  go_wp2_with (first | (go_at_call 68; go_must (with_reducible refine cO.mono ?_); rintro e w' ⟨rfl, rfl⟩))
  simp only [Exit.jump]
  go_ret
  exact ⟨rfl, rfl⟩
set_option maxHeartbeats 4000000 in
set_option maxRecDepth 1000000 in
theorem give_state_walk (p f o : Nat) (w : World)
    (cO : Calls Tryd.prog 68 #[.pointer (some ⟨p, 0, none⟩), .int .i64 (f : Int), .int .i64 (o : Int)] w fun e w' => e = .returned (.bool true) ∧ w' = w)
    (cN : Calls Tryd.prog 69 #[.pointer (some ⟨p, 0, none⟩), .int .i64 (f : Int), .int .i64 (o : Int)] w fun e w' => e = .returned (.bool true) ∧ Dr w w') :
    Calls Tryd.prog 55 #[.pointer (some ⟨p, 0, none⟩), .int .i64 (f : Int), .int .i64 (o : Int)] w fun e w' => e = .returned (.int .i64 20) ∧ Dr w w' := by
  go_enter Tryd.func55, Tryd.ntmps55
  go_wp2_with fail
  refine scope_again 0 (fun _ _ => False) (fun _ _ => 0) rfl (fun pass => ?_) (fun _ _ h => h.elim)
  clear pass
  go_wp2_with (first | (go_at_call 68; go_must (with_reducible refine cO.mono ?_); rintro e w' ⟨rfl, rfl⟩) | (go_at_call 69; go_must (with_reducible refine cN.mono ?_); rintro e w1 ⟨rfl, H1⟩))
  simp only [Exit.jump]
  go_ret
  exact ⟨rfl, H1⟩
theorem sub_self {F : Nat → Bool} {o j : Nat} (h : ∀ k, k / 2 ^ o = j → F k = false) : subF (addF F o j) o j = F := by
  funext k
  apply Bool.eq_iff_iff.2
  rw [subF_iff, addF_iff]
  constructor
  · rintro ⟨h1 | h1, h2⟩
    · exact h1
    · exact absurd h1 h2
  · intro h1
    exact ⟨.inl h1, fun e => by rw [h k e] at h1; cases h1⟩
theorem add_self {F : Nat → Bool} {o j : Nat} (h : Al F o j) : addF (subF F o j) o j = F := by
  funext k
  apply Bool.eq_iff_iff.2
  rw [addF_iff, subF_iff]
  constructor
  · rintro (h1 | h1)
    · exact h1.1
    · exact h k h1
  · intro h1
    by_cases c : k / 2 ^ o = j
    · exact .inr c
    · exact .inl ⟨h1, c⟩
/-- The buddy of (o, j). -/
theorem sib_iff (k o j : Nat) : k / 2 ^ (o + 1) = j / 2 ↔ k / 2 ^ o = j ∨ k / 2 ^ o = j ^^^ 1 := by
  rw [div_par, xor_one]
  split <;> omega
theorem join_eq {T : Nat → Bool} {o j : Nat} : subF (subF T o j) o (j ^^^ 1) = subF T (o + 1) (j / 2) := by
  funext k
  apply Bool.eq_iff_iff.2
  rw [subF_iff, subF_iff, subF_iff, Ne, Ne, Ne, sib_iff]
  constructor
  · rintro ⟨⟨h1, h2⟩, h3⟩; exact ⟨h1, fun h => h.elim h2 h3⟩
  · rintro ⟨h1, h2⟩; exact ⟨⟨h1, fun h => h2 (.inl h)⟩, fun h => h2 (.inr h)⟩
section
variable {w : World} {U : Nat → Prop} {p lo hi : Nat} {F : Nat → Bool}
theorem give_ok (h : BF w U p lo hi F) (j o : Nat) (ho : o ≤ 9) (h1 : lo ≤ j * 2 ^ o) (h2 : j * 2 ^ o + 2 ^ o ≤ hi) (hn : ∀ k, k / 2 ^ o = j → F k = false) 
    (cO : Calls Tryd.prog 68 #[.pointer (some ⟨p, 0, none⟩), .int .i64 ((j * 2 ^ o : Nat) : Int), .int .i64 (o : Int)] w fun e w' => e = .returned (.bool true) ∧ w' = w)
    (cN : Calls Tryd.prog 69 #[.pointer (some ⟨p, 0, none⟩), .int .i64 ((j * 2 ^ o : Nat) : Int), .int .i64 (o : Int)] w fun e w' => e = .returned (.bool false) ∧ Dr w w') :
    Calls Tryd.prog 55 #[.pointer (some ⟨p, 0, none⟩), .int .i64 ((j * 2 ^ o : Nat) : Int), .int .i64 (o : Int)] w fun e w' => e = .returned (.int .i64 0) ∧ BF w' U p lo hi (addF F o j) ∧ Fr U w w' := by
  have hh := h.hh
  obtain ⟨T, hT⟩ : ∃ T, T = addF F o j := ⟨_, rfl⟩
  have dT : ∀ k, T k = true → lo ≤ k ∧ k < hi := fun k hk => by
    rw [hT] at hk
    rcases (addF_iff ..).1 hk with c | c
    · exact h.dom k c
    · have := (blk_iff ..).1 c
      generalize j * 2 ^ o = q at *
      generalize 2 ^ o = r at *
      omega
  have aT : Al T o j := fun k hk => by rw [hT]; exact (addF_iff ..).2 (.inr hk)
  have eF : subF T o j = F := by rw [hT]; exact sub_self hn
  have hfl : j * 2 ^ o ≤ 2097152 := by
    have := Nat.two_pow_pos o
    generalize j * 2 ^ o = q at *
    generalize 2 ^ o = r at *
    omega
  rw [← hT]
  clear hT
  refine give_walk p (j * 2 ^ o) o w (fun f o w' => ∃ j, f = j * 2 ^ o ∧ o ≤ 9 ∧ Al T o j ∧ BF w' U p lo hi (subF T o j) ∧ Fr U w w') (fun f o => rn (subF T o (f / 2 ^ o)) o ((f ^^^ 2 ^ o) / 2 ^ o)) (fun w' => BF w' U p lo hi T ∧ Fr U w w') hfl ho cO
    (cN.mono fun e w' ⟨e1, e2⟩ => ⟨e1, j, rfl, ho, aT, by rw [eF]; exact h.kp e2.kp, e2.kp.fr U⟩) ?_ ?_ ?_ ?_
  · rintro f a w' n ⟨i, h1, h2, h3, h4, h5⟩
    have k : Kp w' (w'.drewN n) := (Kp.refl w').drewN n
    exact ⟨i, h1, h2, h3, h4.kp k, h5.trans (k.fr U)⟩
  · rintro f a w' hf ha ⟨i, h1, h2, h3, h4, h5⟩
    subst h1
    rw [xor_blk, rep, rep]
    have hx : (i ^^^ 1) ≤ 2000000 * 2 := by
      have hi1 : i ≤ 2097152 := Nat.le_trans (Nat.le_mul_of_pos_right _ (Nat.two_pow_pos a)) hf
      rw [xor_one]; split <;> omega
    obtain ⟨wb, sz, lw, W, hm, hs⟩ := h4.bd
    have r3 := h3.range dT
    refine shas_any hm hs a _ (by omega) ?_
    have hi1 : i ≤ 1048576 := by
      have := Nat.le_mul_of_pos_right i (Nat.two_pow_pos a)
      generalize i * 2 ^ a = q at *
      generalize 2 ^ a = r at *
      omega
    rw [xor_one]; split <;> omega
  · rintro f a w' ha hB ⟨i, h1, h2, h3, h4, h5⟩
    subst h1
    rw [xor_blk, rep, rep] at hB
    have hR := (rn_iff ..).1 hB
    rw [xor_blk]
    refine (brem_bf h4 a (i ^^^ 1) _ (by omega) hR (rep _ _)).mono fun e w'' ⟨e1, e2, e3⟩ => ⟨e1, i / 2, ?_, by omega, ?_, ?_, h5.trans e3⟩
    · rw [Nat.pow_succ, Nat.mul_comm (2 ^ a) 2, ← Nat.mul_assoc]
      rw [xor_one]
      split
      · rw [Nat.min_eq_left (Nat.mul_le_mul_right _ (by omega)), show i / 2 * 2 = i by omega]
      · rw [Nat.min_eq_right (Nat.mul_le_mul_right _ (by omega)), show i / 2 * 2 = i - 1 by omega]
    · intro k hk
      rcases (sib_iff k a i).1 hk with c | c
      · exact h3 k c
      · exact ((subF_iff ..).1 (hR.1 k c)).1
    · rw [← join_eq]; exact e2
  · rintro f a w' hB ha ⟨i, h1, h2, h3, h4, h5⟩
    subst h1
    rw [xor_blk, rep, rep] at hB
    have r3 := h3.range dT
    have nG : ∀ k, k / 2 ^ a = i → subF T a i k = false := fun k hk => by
      cases hv : subF T a i k
      · rfl
      · exact absurd hk ((subF_iff ..).1 hv).2
    have := badd_bf h4 a i (i * 2 ^ a) ha nG (by
      rcases hB with e | e
      · exact .inl e
      · by_cases e9 : a = 9
        · exact .inl e9
        · right
          have nR := (rn_false ..).1 e
          have nA : ¬ Al (subF T a i) a (i ^^^ 1) := fun hA => nR ⟨hA, .inr (fun hP => by
            have := hP (i * 2 ^ a) (by rw [div_par, rep, xor_one]; split <;> omega)
            rw [nG _ (rep i a)] at this; cases this)⟩
          refine Classical.byContradiction fun hno => nA fun k hk => ?_
          cases hv : subF T a i k
          · exact absurd ⟨k, (sib_iff k a i).2 (.inr hk), by rw [hk, xor_one]; split <;> omega, hv⟩ hno
          · rfl) (rep i a) r3.1 r3.2
    rw [add_self h3] at this
    exact this.mono fun e w'' ⟨e1, e2, e3⟩ => ⟨e1, e2, h5.trans e3⟩
/-- What Give answers, and leaves. -/
def gvR (lo hi : Nat) (F : Nat → Bool) (x o : Int) : Int := if owns lo hi x o then (if anyF F x.toNat o.toNat then 20 else 0) else 1
def gvF (lo hi : Nat) (F : Nat → Bool) (x o : Int) : Nat → Bool := if owns lo hi x o && !anyF F x.toNat o.toNat then addF F o.toNat (x.toNat / 2 ^ o.toNat) else F
theorem owns_iff {lo hi : Nat} {x o : Int} (h : owns lo hi x o = true) : ∃ j a : Nat, o = (a : Int) ∧ a ≤ 9 ∧ x = ((j * 2 ^ a : Nat) : Int) ∧ lo ≤ j * 2 ^ a ∧ j * 2 ^ a + 2 ^ a ≤ hi := by
  obtain ⟨h1, h2, h3, h4, h5⟩ := of_decide_eq_true h
  obtain ⟨a, rfl⟩ : ∃ a : Nat, o = (a : Int) := ⟨o.toNat, by omega⟩
  obtain ⟨f, rfl⟩ : ∃ f : Nat, x = (f : Int) := ⟨x.toNat, by omega⟩
  rw [Int.toNat_natCast] at h3 h5
  have es : ((2 ^ a : Nat) : Int) = (2 : Int) ^ a := by push_cast; rfl
  rw [← es] at h3 h5
  rw [Int.tmod_eq_emod_of_nonneg (by omega)] at h3
  have h6 : f % 2 ^ a = 0 := by
    have : ((f % 2 ^ a : Nat) : Int) = 0 := by rw [Int.natCast_emod]; exact h3
    omega
  have h7 : f / 2 ^ a * 2 ^ a = f := Nat.div_mul_cancel (Nat.dvd_of_mod_eq_zero h6)
  refine ⟨f / 2 ^ a, a, rfl, by omega, by rw [h7], by rw [h7]; omega, ?_⟩
  rw [h7]
  generalize 2 ^ a = r at *
  omega
theorem give_any (h : BF w U p lo hi F) (x o : Int) :
    Calls Tryd.prog 55 #[.pointer (some ⟨p, 0, none⟩), .int .i64 x, .int .i64 o] w fun e w' => e = .returned (.int .i64 (gvR lo hi F x o)) ∧ BF w' U p lo hi (gvF lo hi F x o) ∧ Fr U w w' := by
  have cO := owns_any h x o
  unfold gvR gvF
  cases hO : owns lo hi x o
  · rw [hO] at cO
    rw [if_neg (by decide), Bool.false_and, if_neg (by decide)]
    exact (give_arg_walk p x o w cO).mono fun e w' ⟨e1, e2⟩ => ⟨e1, by rw [e2]; exact h, by rw [e2]; exact Fr.refl _ _⟩
  · rw [hO] at cO
    obtain ⟨j, a, rfl, ha, rfl, h1, h2⟩ := owns_iff hO
    have hh := h.hh
    have hp := Nat.two_pow_pos a
    have cN := anyFree_any h (j * 2 ^ a) a (by omega) (by generalize j * 2 ^ a = q at *; generalize 2 ^ a = r at *; omega)
    rw [if_pos rfl, Bool.true_and, Int.toNat_natCast, Int.toNat_natCast]
    cases hN : anyF F (j * 2 ^ a) a
    · rw [hN] at cN
      rw [if_neg (by decide), if_pos (by decide), rep]
      refine give_ok h j a ha h1 h2 (fun k hk => ?_) cO cN
      have hb := (blk_iff ..).1 hk
      have := anyF_false hN (k - j * 2 ^ a) (by omega)
      rwa [show j * 2 ^ a + (k - j * 2 ^ a) = k by omega] at this
    · rw [hN] at cN
      rw [if_pos rfl, if_neg (by decide)]
      exact (give_state_walk p (j * 2 ^ a) a w cO cN).mono fun e w' ⟨e1, e2⟩ => ⟨e1, h.kp e2.kp, e2.kp.fr U⟩
end
end Go.Proofs.YtjnkmmfppkpgbaaDoor
