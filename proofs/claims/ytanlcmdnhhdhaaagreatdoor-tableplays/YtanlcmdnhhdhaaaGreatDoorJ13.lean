/- Joined: U9, UL. -/
import Derived.Test.YtanlcmdnhhdhaaaGreatDoorJ12
import Derived.Test.YtanlcmdnhhdhaaaGreatDoorJ10
/- buddy.Buddy: Give. -/
namespace Go.Proofs.YtanlcmdnhhdhaaaGreatDoor
open Go.RowKit

theorem xor_one (j : Nat) : j ^^^ 1 = if j % 2 = 0 then j + 1 else j - 1 := by
  have h1 : (j ^^^ 1) / 2 = j / 2 := by
    apply Nat.eq_of_testBit_eq
    intro b
    rw [← Nat.testBit_succ, ← Nat.testBit_succ, Nat.testBit_xor, Nat.testBit_succ 1]
    simp
  have h2 : ((j ^^^ 1) % 2 = 1) ↔ ¬ (j % 2 = 1) := by
    have a : decide ((j ^^^ 1) % 2 = 1) = !decide (j % 2 = 1) := by
      rw [← Nat.testBit_zero, Nat.testBit_xor, Nat.testBit_zero, Nat.testBit_zero]; simp
    by_cases c : j % 2 = 1
    · rw [decide_eq_true c] at a
      have := of_decide_eq_false (show decide ((j ^^^ 1) % 2 = 1) = false from a)
      exact ⟨fun h => absurd h this, fun h => absurd c h⟩
    · rw [decide_eq_false c] at a
      have := of_decide_eq_true (show decide ((j ^^^ 1) % 2 = 1) = true from a)
      exact ⟨fun _ => c, fun _ => this⟩
  split <;> omega
theorem xor_blk (j o : Nat) : (j * 2 ^ o) ^^^ 2 ^ o = (j ^^^ 1) * 2 ^ o := by
  have := Nat.shiftLeft_xor_distrib (a := j) (b := 1) (i := o)
  rw [Nat.shiftLeft_eq, Nat.shiftLeft_eq, Nat.shiftLeft_eq, Nat.one_mul] at this
  exact this.symm

set_option maxHeartbeats 4000000 in
set_option maxRecDepth 1000000 in
theorem give_arg_walk (p : Nat) (x o : Int) (w : World)
    (cO : Calls Tryz.prog 137 #[.pointer (some ⟨p, 0, none⟩), .int .i64 x, .int .i64 o] w fun e w' => e = .returned (.bool false) ∧ w' = w) :
    Calls Tryz.prog 120 #[.pointer (some ⟨p, 0, none⟩), .int .i64 x, .int .i64 o] w fun e w' => e = .returned (.int .i64 1) ∧ w' = w := by
  go_enter Tryz.func120, Tryz.ntmps120
  go_wp2_with fail
  refine scope_again 0 (fun _ _ => False) (fun _ _ => 0) rfl (fun pass => ?_) (fun _ _ h => h.elim)
  clear pass
  go_wp2_with (first | (go_at_call 137; go_must (with_reducible refine cO.mono ?_); rintro e w' ⟨rfl, rfl⟩))
  simp only [Exit.jump]
  go_ret
  exact ⟨rfl, rfl⟩
set_option maxHeartbeats 4000000 in
set_option maxRecDepth 1000000 in
theorem give_state_walk (p f o : Nat) (w : World)
    (cO : Calls Tryz.prog 137 #[.pointer (some ⟨p, 0, none⟩), .int .i64 (f : Int), .int .i64 (o : Int)] w fun e w' => e = .returned (.bool true) ∧ w' = w)
    (cN : Calls Tryz.prog 138 #[.pointer (some ⟨p, 0, none⟩), .int .i64 (f : Int), .int .i64 (o : Int)] w fun e w' => e = .returned (.bool true) ∧ Dr w w') :
    Calls Tryz.prog 120 #[.pointer (some ⟨p, 0, none⟩), .int .i64 (f : Int), .int .i64 (o : Int)] w fun e w' => e = .returned (.int .i64 20) ∧ Dr w w' := by
  go_enter Tryz.func120, Tryz.ntmps120
  go_wp2_with fail
  refine scope_again 0 (fun _ _ => False) (fun _ _ => 0) rfl (fun pass => ?_) (fun _ _ h => h.elim)
  clear pass
  go_wp2_with (first | (go_at_call 137; go_must (with_reducible refine cO.mono ?_); rintro e w' ⟨rfl, rfl⟩) | (go_at_call 138; go_must (with_reducible refine cN.mono ?_); rintro e w1 ⟨rfl, H1⟩))
  simp only [Exit.jump]
  go_ret
  exact ⟨rfl, H1⟩
theorem sub_self {F : Nat → Bool} {o j : Nat} (h : ∀ k, k / 2 ^ o = j → F k = false) : subF (addF F o j) o j = F := by
  funext k
  apply Bool.eq_iff_iff.2
  rw [subF_iff, addF_iff]
  constructor
  · rintro ⟨h1 | h1, h2⟩
    · exact h1
    · exact absurd h1 h2
  · intro h1
    exact ⟨.inl h1, fun e => by rw [h k e] at h1; cases h1⟩
theorem add_self {F : Nat → Bool} {o j : Nat} (h : Al F o j) : addF (subF F o j) o j = F := by
  funext k
  apply Bool.eq_iff_iff.2
  rw [addF_iff, subF_iff]
  constructor
  · rintro (h1 | h1)
    · exact h1.1
    · exact h k h1
  · intro h1
    by_cases c : k / 2 ^ o = j
    · exact .inr c
    · exact .inl ⟨h1, c⟩
/-- The buddy of (o, j). -/
theorem sib_iff (k o j : Nat) : k / 2 ^ (o + 1) = j / 2 ↔ k / 2 ^ o = j ∨ k / 2 ^ o = j ^^^ 1 := by
  rw [div_par, xor_one]
  split <;> omega
theorem join_eq {T : Nat → Bool} {o j : Nat} : subF (subF T o j) o (j ^^^ 1) = subF T (o + 1) (j / 2) := by
  funext k
  apply Bool.eq_iff_iff.2
  rw [subF_iff, subF_iff, subF_iff, Ne, Ne, Ne, sib_iff]
  constructor
  · rintro ⟨⟨h1, h2⟩, h3⟩; exact ⟨h1, fun h => h.elim h2 h3⟩
  · rintro ⟨h1, h2⟩; exact ⟨⟨h1, fun h => h2 (.inl h)⟩, fun h => h2 (.inr h)⟩
section
variable {w : World} {U : Nat → Prop} {p lo hi : Nat} {F : Nat → Bool}
theorem give_ok (h : BF w U p lo hi F) (j o : Nat) (ho : o ≤ 9) (h1 : lo ≤ j * 2 ^ o) (h2 : j * 2 ^ o + 2 ^ o ≤ hi) (hn : ∀ k, k / 2 ^ o = j → F k = false) 
    (cO : Calls Tryz.prog 137 #[.pointer (some ⟨p, 0, none⟩), .int .i64 ((j * 2 ^ o : Nat) : Int), .int .i64 (o : Int)] w fun e w' => e = .returned (.bool true) ∧ w' = w)
    (cN : Calls Tryz.prog 138 #[.pointer (some ⟨p, 0, none⟩), .int .i64 ((j * 2 ^ o : Nat) : Int), .int .i64 (o : Int)] w fun e w' => e = .returned (.bool false) ∧ Dr w w') :
    Calls Tryz.prog 120 #[.pointer (some ⟨p, 0, none⟩), .int .i64 ((j * 2 ^ o : Nat) : Int), .int .i64 (o : Int)] w fun e w' => e = .returned (.int .i64 0) ∧ BF w' U p lo hi (addF F o j) ∧ Fr U w w' := by
  have hh := h.hh
  obtain ⟨T, hT⟩ : ∃ T, T = addF F o j := ⟨_, rfl⟩
  have dT : ∀ k, T k = true → lo ≤ k ∧ k < hi := fun k hk => by
    rw [hT] at hk
    rcases (addF_iff ..).1 hk with c | c
    · exact h.dom k c
    · have := (blk_iff ..).1 c
      generalize j * 2 ^ o = q at *
      generalize 2 ^ o = r at *
      omega
  have aT : Al T o j := fun k hk => by rw [hT]; exact (addF_iff ..).2 (.inr hk)
  have eF : subF T o j = F := by rw [hT]; exact sub_self hn
  have hfl : j * 2 ^ o ≤ 2097152 := by
    have := Nat.two_pow_pos o
    generalize j * 2 ^ o = q at *
    generalize 2 ^ o = r at *
    omega
  rw [← hT]
  clear hT
  refine give_walk p (j * 2 ^ o) o w (fun f o w' => ∃ j, f = j * 2 ^ o ∧ o ≤ 9 ∧ Al T o j ∧ BF w' U p lo hi (subF T o j) ∧ Fr U w w') (fun f o => rn (subF T o (f / 2 ^ o)) o ((f ^^^ 2 ^ o) / 2 ^ o)) (fun w' => BF w' U p lo hi T ∧ Fr U w w') hfl ho cO
    (cN.mono fun e w' ⟨e1, e2⟩ => ⟨e1, j, rfl, ho, aT, by rw [eF]; exact h.kp e2.kp, e2.kp.fr U⟩) ?_ ?_ ?_ ?_
  · rintro f a w' n ⟨i, h1, h2, h3, h4, h5⟩
    have k : Kp w' (w'.drewN n) := (Kp.refl w').drewN n
    exact ⟨i, h1, h2, h3, h4.kp k, h5.trans (k.fr U)⟩
  · rintro f a w' hf ha ⟨i, h1, h2, h3, h4, h5⟩
    subst h1
    rw [xor_blk, rep, rep]
    have hx : (i ^^^ 1) ≤ 2000000 * 2 := by
      have hi1 : i ≤ 2097152 := Nat.le_trans (Nat.le_mul_of_pos_right _ (Nat.two_pow_pos a)) hf
      rw [xor_one]; split <;> omega
    obtain ⟨wb, sz, lw, W, hm, hs⟩ := h4.bd
    have r3 := h3.range dT
    refine shas_any hm hs a _ (by omega) ?_
    have hi1 : i ≤ 1048576 := by
      have := Nat.le_mul_of_pos_right i (Nat.two_pow_pos a)
      generalize i * 2 ^ a = q at *
      generalize 2 ^ a = r at *
      omega
    rw [xor_one]; split <;> omega
  · rintro f a w' ha hB ⟨i, h1, h2, h3, h4, h5⟩
    subst h1
    rw [xor_blk, rep, rep] at hB
    have hR := (rn_iff ..).1 hB
    rw [xor_blk]
    refine (brem_bf h4 a (i ^^^ 1) _ (by omega) hR (rep _ _)).mono fun e w'' ⟨e1, e2, e3⟩ => ⟨e1, i / 2, ?_, by omega, ?_, ?_, h5.trans e3⟩
    · rw [Nat.pow_succ, Nat.mul_comm (2 ^ a) 2, ← Nat.mul_assoc]
      rw [xor_one]
      split
      · rw [Nat.min_eq_left (Nat.mul_le_mul_right _ (by omega)), show i / 2 * 2 = i by omega]
      · rw [Nat.min_eq_right (Nat.mul_le_mul_right _ (by omega)), show i / 2 * 2 = i - 1 by omega]
    · intro k hk
      rcases (sib_iff k a i).1 hk with c | c
      · exact h3 k c
      · exact ((subF_iff ..).1 (hR.1 k c)).1
    · rw [← join_eq]; exact e2
  · rintro f a w' hB ha ⟨i, h1, h2, h3, h4, h5⟩
    subst h1
    rw [xor_blk, rep, rep] at hB
    have r3 := h3.range dT
    have nG : ∀ k, k / 2 ^ a = i → subF T a i k = false := fun k hk => by
      cases hv : subF T a i k
      · rfl
      · exact absurd hk ((subF_iff ..).1 hv).2
    have := badd_bf h4 a i (i * 2 ^ a) ha nG (by
      rcases hB with e | e
      · exact .inl e
      · by_cases e9 : a = 9
        · exact .inl e9
        · right
          have nR := (rn_false ..).1 e
          have nA : ¬ Al (subF T a i) a (i ^^^ 1) := fun hA => nR ⟨hA, .inr (fun hP => by
            have := hP (i * 2 ^ a) (by rw [div_par, rep, xor_one]; split <;> omega)
            rw [nG _ (rep i a)] at this; cases this)⟩
          refine Classical.byContradiction fun hno => nA fun k hk => ?_
          cases hv : subF T a i k
          · exact absurd ⟨k, (sib_iff k a i).2 (.inr hk), by rw [hk, xor_one]; split <;> omega, hv⟩ hno
          · rfl) (rep i a) r3.1 r3.2
    rw [add_self h3] at this
    exact this.mono fun e w'' ⟨e1, e2, e3⟩ => ⟨e1, e2, h5.trans e3⟩
/-- What Give answers, and leaves. -/
def gvR (lo hi : Nat) (F : Nat → Bool) (x o : Int) : Int := if owns lo hi x o then (if anyF F x.toNat o.toNat then 20 else 0) else 1
def gvF (lo hi : Nat) (F : Nat → Bool) (x o : Int) : Nat → Bool := if owns lo hi x o && !anyF F x.toNat o.toNat then addF F o.toNat (x.toNat / 2 ^ o.toNat) else F
theorem owns_iff {lo hi : Nat} {x o : Int} (h : owns lo hi x o = true) : ∃ j a : Nat, o = (a : Int) ∧ a ≤ 9 ∧ x = ((j * 2 ^ a : Nat) : Int) ∧ lo ≤ j * 2 ^ a ∧ j * 2 ^ a + 2 ^ a ≤ hi := by
  obtain ⟨h1, h2, h3, h4, h5⟩ := of_decide_eq_true h
  obtain ⟨a, rfl⟩ : ∃ a : Nat, o = (a : Int) := ⟨o.toNat, by omega⟩
  obtain ⟨f, rfl⟩ : ∃ f : Nat, x = (f : Int) := ⟨x.toNat, by omega⟩
  rw [Int.toNat_natCast] at h3 h5
  have es : ((2 ^ a : Nat) : Int) = (2 : Int) ^ a := by push_cast; rfl
  rw [← es] at h3 h5
  rw [Int.tmod_eq_emod_of_nonneg (by omega)] at h3
  have h6 : f % 2 ^ a = 0 := by
    have : ((f % 2 ^ a : Nat) : Int) = 0 := by rw [Int.natCast_emod]; exact h3
    omega
  have h7 : f / 2 ^ a * 2 ^ a = f := Nat.div_mul_cancel (Nat.dvd_of_mod_eq_zero h6)
  refine ⟨f / 2 ^ a, a, rfl, by omega, by rw [h7], by rw [h7]; omega, ?_⟩
  rw [h7]
  generalize 2 ^ a = r at *
  omega
theorem give_any (h : BF w U p lo hi F) (x o : Int) :
    Calls Tryz.prog 120 #[.pointer (some ⟨p, 0, none⟩), .int .i64 x, .int .i64 o] w fun e w' => e = .returned (.int .i64 (gvR lo hi F x o)) ∧ BF w' U p lo hi (gvF lo hi F x o) ∧ Fr U w w' := by
  have cO := owns_any h x o
  unfold gvR gvF
  cases hO : owns lo hi x o
  · rw [hO] at cO
    rw [if_neg (by decide), Bool.false_and, if_neg (by decide)]
    exact (give_arg_walk p x o w cO).mono fun e w' ⟨e1, e2⟩ => ⟨e1, by rw [e2]; exact h, by rw [e2]; exact Fr.refl _ _⟩
  · rw [hO] at cO
    obtain ⟨j, a, rfl, ha, rfl, h1, h2⟩ := owns_iff hO
    have hh := h.hh
    have hp := Nat.two_pow_pos a
    have cN := anyFree_any h (j * 2 ^ a) a (by omega) (by generalize j * 2 ^ a = q at *; generalize 2 ^ a = r at *; omega)
    rw [if_pos rfl, Bool.true_and, Int.toNat_natCast, Int.toNat_natCast]
    cases hN : anyF F (j * 2 ^ a) a
    · rw [hN] at cN
      rw [if_neg (by decide), if_pos (by decide), rep]
      refine give_ok h j a ha h1 h2 (fun k hk => ?_) cO cN
      have hb := (blk_iff ..).1 hk
      have := anyF_false hN (k - j * 2 ^ a) (by omega)
      rwa [show j * 2 ^ a + (k - j * 2 ^ a) = k by omega] at this
    · rw [hN] at cN
      rw [if_pos rfl, if_neg (by decide)]
      exact (give_state_walk p (j * 2 ^ a) a w cO cN).mono fun e w' ⟨e1, e2⟩ => ⟨e1, h.kp e2.kp, e2.kp.fr U⟩
end
end Go.Proofs.YtanlcmdnhhdhaaaGreatDoor

/- The free runs as a list. -/
namespace Go.Proofs.YtanlcmdnhhdhaaaGreatDoor

def ordG (F : Nat → Bool) (f : Nat) : Nat → Nat → Nat
  | 0, o => o
  | n + 1, o => if rn F o (f / 2 ^ o) then o else ordG F f n (o + 1)
/-- The order of the run that the frame f lies in. -/
def ordF (F : Nat → Bool) (f : Nat) : Nat := ordG F f 10 0
theorem ordG_of {F : Nat → Bool} {f o : Nat} (h : rn F o (f / 2 ^ o) = true) : ∀ n a, a ≤ o → o < a + n → (∀ b, a ≤ b → b < o → rn F b (f / 2 ^ b) = false) → ordG F f n a = o
  | 0, a, h1, h2, _ => by omega
  | n + 1, a, h1, h2, h3 => by
    unfold ordG
    by_cases c : a = o
    · subst c; rw [if_pos h]
    · rw [h3 a (Nat.le_refl _) (by omega), if_neg (by decide)]
      exact ordG_of h n (a + 1) (by omega) (by omega) (fun b hb => h3 b (by omega))
theorem ord_of {F : Nat → Bool} {f o : Nat} (ho : o ≤ 9) (h : Rn F o (f / 2 ^ o)) : ordF F f = o :=
  ordG_of ((rn_iff ..).2 h) 10 0 (Nat.zero_le _) (by omega) (fun b _ hb => (rn_false ..).2 (fun c => by have := run_one (by omega) ho c h; omega))
theorem ord_spec {F : Nat → Bool} {f : Nat} (h : F f = true) : ordF F f ≤ 9 ∧ Rn F (ordF F f) (f / 2 ^ ordF F f) := by
  obtain ⟨o, h1, h2⟩ := run_of h
  rw [ord_of h1 h2]; exact ⟨h1, h2⟩

def rlf (F : Nat → Bool) (hi : Nat) : Nat → Nat → List (Nat × Nat)
  | 0, _ => []
  | n + 1, f => if f < hi then (if F f then (f, ordF F f) :: rlf F hi n (f + 2 ^ ordF F f) else rlf F hi n (f + 1)) else []
/-- The free runs from the frame f on. -/
def rl (F : Nat → Bool) (hi f : Nat) : List (Nat × Nat) := rlf F hi (hi - f) f
theorem rlf_fuel (F : Nat → Bool) (hi : Nat) : ∀ n m f, hi - f ≤ n → hi - f ≤ m → rlf F hi n f = rlf F hi m f
  | 0, 0, f, _, _ => rfl
  | 0, m + 1, f, h, _ => by unfold rlf; rw [if_neg (by omega)]
  | n + 1, 0, f, _, h => by unfold rlf; rw [if_neg (by omega)]
  | n + 1, m + 1, f, h1, h2 => by
    have hp := Nat.two_pow_pos (ordF F f)
    unfold rlf
    by_cases c : f < hi
    · rw [if_pos c, if_pos c]
      split
      · rw [rlf_fuel F hi n m _ (by omega) (by omega)]
      · exact rlf_fuel F hi n m _ (by omega) (by omega)
    · rw [if_neg c, if_neg c]
theorem rl_on {F : Nat → Bool} {hi f : Nat} (h : f < hi) (hF : F f = true) : rl F hi f = (f, ordF F f) :: rl F hi (f + 2 ^ ordF F f) := by
  have hp := Nat.two_pow_pos (ordF F f)
  unfold rl
  obtain ⟨n, hn⟩ : ∃ n, hi - f = n + 1 := ⟨hi - f - 1, by omega⟩
  rw [hn]
  conv => lhs; unfold rlf
  rw [if_pos h, if_pos hF, rlf_fuel F hi n (hi - (f + 2 ^ ordF F f)) _ (by omega) (Nat.le_refl _)]
theorem rl_off {F : Nat → Bool} {hi f : Nat} (h : f < hi) (hF : F f = false) : rl F hi f = rl F hi (f + 1) := by
  unfold rl
  obtain ⟨n, hn⟩ : ∃ n, hi - f = n + 1 := ⟨hi - f - 1, by omega⟩
  rw [hn]
  conv => lhs; unfold rlf
  rw [if_pos h, if_neg (by rw [hF]; decide), rlf_fuel F hi n (hi - (f + 1)) _ (by omega) (Nat.le_refl _)]
theorem rl_end {F : Nat → Bool} {hi f : Nat} (h : hi ≤ f) : rl F hi f = [] := by
  unfold rl
  rw [show hi - f = 0 by omega]; rfl
theorem mod_of {f o : Nat} (h : f / 2 ^ o * 2 ^ o = f) : f % 2 ^ o = 0 := Nat.mod_eq_zero_of_dvd ⟨f / 2 ^ o, by rw [Nat.mul_comm]; exact h.symm⟩

/-- No block of free frames lies on both sides of f. -/
def Cut (F : Nat → Bool) (f : Nat) : Prop := ∀ o i, o ≤ 9 → Al F o i → ¬ (i * 2 ^ o < f ∧ f < i * 2 ^ o + 2 ^ o)
theorem cut_next {F : Nat → Bool} {f o : Nat} (hc : Cut F f) (hf : f % 2 ^ o = 0) (hm : ∀ a, o < a → a ≤ 9 → f % 2 ^ a = 0 → ¬ Al F a (f / 2 ^ a)) : Cut F (f + 2 ^ o) := by
  intro a i ha hA ⟨h1, h2⟩
  have hp := Nat.two_pow_pos o
  have hfo : f / 2 ^ o * 2 ^ o = f := Nat.div_mul_cancel (Nat.dvd_of_mod_eq_zero hf)
  by_cases c : a ≤ o
  · have e1 : (f + 2 ^ o - 1) / 2 ^ a = i := (blk_iff ..).2 ⟨by omega, by omega⟩
    have e2 : (f + 2 ^ o - 1) / 2 ^ o = f / 2 ^ o := (blk_iff ..).2 ⟨by rw [hfo]; omega, by rw [hfo]; omega⟩
    have e3 := sub_blk c e1 e2 (f + 2 ^ o) ((blk_iff ..).2 ⟨by omega, by omega⟩)
    rw [Nat.add_div_right _ hp] at e3
    omega
  · have e1 : (f + 2 ^ o - 1) / 2 ^ a = i := (blk_iff ..).2 ⟨by omega, by omega⟩
    have e2 : (f + 2 ^ o - 1) / 2 ^ o = f / 2 ^ o := (blk_iff ..).2 ⟨by rw [hfo]; omega, by rw [hfo]; omega⟩
    have e3 : f / 2 ^ a = i := sub_blk (by omega) e2 e1 f rfl
    have e4 := (blk_iff ..).1 e3
    have e5 : i * 2 ^ a = f := by
      by_cases d : i * 2 ^ a < f
      · exact absurd ⟨d, e4.2⟩ (hc a i ha hA)
      · omega
    refine hm a (by omega) ha ?_ (by rw [e3]; exact hA)
    rw [← e5]
    exact Nat.mul_mod_left _ _
/-- A run that begins at a cut's right begins there. -/
theorem Cut.start {F : Nat → Bool} {f o : Nat} (hc : Cut F f) (ho : o ≤ 9) (h : Rn F o (f / 2 ^ o)) : f / 2 ^ o * 2 ^ o = f := by
  have hb := (blk_iff f o (f / 2 ^ o)).1 rfl
  by_cases c : f / 2 ^ o * 2 ^ o < f
  · exact absurd ⟨c, hb.2⟩ (hc o _ ho h.1)
  · omega
theorem Cut.on {F : Nat → Bool} {f o : Nat} (hc : Cut F f) (ho : o ≤ 9) (h : Rn F o (f / 2 ^ o)) : Cut F (f + 2 ^ o) := by
  have hs := hc.start ho h
  refine cut_next hc (mod_of hs) (fun a h1 h2 h3 hA => ?_)
  rcases h.2 with e | e
  · omega
  · rw [← div_par] at e
    exact e (hA.sub (k := f) (by omega) rfl rfl)
theorem cut_off {F : Nat → Bool} {f : Nat} (h : F f = false) : Cut F (f + 1) := by
  intro o i ho hA ⟨h1, h2⟩
  have := hA f ((blk_iff ..).2 ⟨by omega, by omega⟩)
  rw [h] at this; cases this

/-- What is in the list: the free runs, rising. -/
theorem rl_mem {F : Nat → Bool} {hi : Nat} (dom : ∀ k, F k = true → k < hi) : ∀ (n f : Nat), hi - f ≤ n → Cut F f → ∀ x o, (x, o) ∈ rl F hi f ↔ (f ≤ x ∧ o ≤ 9 ∧ x % 2 ^ o = 0 ∧ Rn F o (x / 2 ^ o)) := by
  intro n
  induction n with
  | zero =>
    intro f hn hc x o
    rw [rl_end (by omega)]
    constructor
    · intro h; cases h
    · rintro ⟨h1, h2, h3, h4⟩
      have := dom x (h4.1 x rfl)
      omega
  | succ n ih =>
    intro f hn hc x o
    by_cases c : f < hi
    · cases hF : F f
      · rw [rl_off c hF, ih (f + 1) (by omega) (cut_off hF)]
        constructor
        · rintro ⟨h1, h2⟩; exact ⟨by omega, h2⟩
        · rintro ⟨h1, h2, h3, h4⟩
          refine ⟨?_, h2, h3, h4⟩
          by_cases e : x = f
          · subst e; have := h4.1 x rfl; rw [hF] at this; cases this
          · omega
      · obtain ⟨o1, o2⟩ := ord_spec hF
        have hp := Nat.two_pow_pos (ordF F f)
        have hs := hc.start o1 o2
        rw [rl_on c hF, List.mem_cons, ih _ (by omega) (hc.on o1 o2)]
        constructor
        · rintro (h | ⟨h1, h2⟩)
          · cases h; exact ⟨Nat.le_refl _, o1, mod_of hs, o2⟩
          · exact ⟨by omega, h2⟩
        · rintro ⟨h1, h2, h3, h4⟩
          by_cases e : x < f + 2 ^ ordF F f
          · left
            have hb : x / 2 ^ ordF F f = f / 2 ^ ordF F f := (blk_iff ..).2 ⟨by omega, by omega⟩
            have eo : o = ordF F f := run_one h2 o1 h4 (by rw [hb]; exact o2)
            subst eo
            have : x / 2 ^ ordF F f * 2 ^ ordF F f = x := Nat.div_mul_cancel (Nat.dvd_of_mod_eq_zero h3)
            rw [hb, hs] at this
            rw [this]
          · exact .inr ⟨by omega, h2, h3, h4⟩
    · rw [rl_end (by omega)]
      constructor
      · intro h; cases h
      · rintro ⟨h1, h2, h3, h4⟩
        have := dom x (h4.1 x rfl)
        omega
/-- Rising, and apart. -/
theorem rl_rise {F : Nat → Bool} {hi : Nat} : ∀ (n f : Nat), hi - f ≤ n → (∀ x ∈ rl F hi f, f ≤ x.1) ∧ (rl F hi f).Pairwise (fun x y => x.1 + 2 ^ x.2 ≤ y.1) := by
  intro n
  induction n with
  | zero => intro f hn; rw [rl_end (by omega)]; exact ⟨fun x hx => (by cases hx), .nil⟩
  | succ n ih =>
    intro f hn
    by_cases c : f < hi
    · have hp := Nat.two_pow_pos (ordF F f)
      cases hF : F f
      · rw [rl_off c hF]
        obtain ⟨h1, h2⟩ := ih (f + 1) (by omega)
        exact ⟨fun x hx => by have := h1 x hx; omega, h2⟩
      · rw [rl_on c hF]
        obtain ⟨h1, h2⟩ := ih (f + 2 ^ ordF F f) (by omega)
        refine ⟨fun x hx => ?_, List.pairwise_cons.2 ⟨fun y hy => h1 y hy, h2⟩⟩
        rcases List.mem_cons.1 hx with e | e
        · subst e; exact Nat.le_refl _
        · have := h1 x e; omega
    · rw [rl_end (by omega)]; exact ⟨fun x hx => (by cases hx), .nil⟩
/-- The sum of the runs. -/
def sumR : List (Nat × Nat) → Nat
  | [] => 0
  | x :: r => 2 ^ x.2 + sumR r
theorem cnt_step {F : Nat → Bool} {a b : Nat} (hab : a ≤ b) (h : ∀ k, a ≤ k → k < b → F k = true) : cnt F b = cnt F a + (b - a) := by
  obtain ⟨d, rfl⟩ : ∃ d, b = a + d := ⟨b - a, by omega⟩
  induction d with
  | zero => simp
  | succ d ih =>
    have := ih (by omega) (fun k h1 h2 => h k h1 (by omega))
    rw [show a + (d + 1) = (a + d) + 1 by omega]
    show cnt F (a + d) + (if F (a + d) then 1 else 0) = _
    rw [this, if_pos (h (a + d) (by omega) (by omega))]
    omega
theorem rl_sum {F : Nat → Bool} {hi : Nat} (dom : ∀ k, F k = true → k < hi) : ∀ (n f : Nat), hi - f ≤ n → f ≤ hi → Cut F f → sumR (rl F hi f) + cnt F f = cnt F hi := by
  intro n
  induction n with
  | zero => intro f hn hf hc; rw [rl_end (by omega), show f = hi by omega]; simp [sumR]
  | succ n ih =>
    intro f hn hf hc
    by_cases c : f < hi
    · cases hF : F f
      · rw [rl_off c hF, ← ih (f + 1) (by omega) (by omega) (cut_off hF)]
        conv => rhs; unfold cnt
        rw [hF]; simp
      · obtain ⟨o1, o2⟩ := ord_spec hF
        have hp := Nat.two_pow_pos (ordF F f)
        have hs := hc.start o1 o2
        have hall : ∀ k, f ≤ k → k < f + 2 ^ ordF F f → F k = true := fun k h1 h2 => o2.1 k ((blk_iff ..).2 ⟨by omega, by omega⟩)
        have hle : f + 2 ^ ordF F f ≤ hi := by
          have := dom _ (hall (f + 2 ^ ordF F f - 1) (by omega) (by omega))
          omega
        rw [rl_on c hF, ← ih (f + 2 ^ ordF F f) (by omega) hle (hc.on o1 o2), cnt_step (a := f) (b := f + 2 ^ ordF F f) (by omega) hall]
        simp only [sumR]
        omega
    · rw [rl_end (by omega), show f = hi by omega]; simp [sumR]

end Go.Proofs.YtanlcmdnhhdhaaaGreatDoor
