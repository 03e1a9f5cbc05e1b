/- Joined: U9, UL, UA. -/
import Derived.Test.YtanlcmdnhhdhaaaGreatDoorJ10
import Derived.Test.YtanlcmdnhhdhaaaGreatDoorJ08
import Derived.Deep.DeepCutAuto
/- buddy.Buddy: Give. -/
namespace Go.Proofs.YtanlcmdnhhdhaaaGreatDoor
open Go.RowKit

theorem xor_one (j : Nat) : j ^^^ 1 = if j % 2 = 0 then j + 1 else j - 1 := by
  have h1 : (j ^^^ 1) / 2 = j / 2 := by
    apply Nat.eq_of_testBit_eq
    intro b
    rw [← Nat.testBit_succ, ← Nat.testBit_succ, Nat.testBit_xor, Nat.testBit_succ 1]
    simp
  have h2 : ((j ^^^ 1) % 2 = 1) ↔ ¬ (j % 2 = 1) := by
    have a : decide ((j ^^^ 1) % 2 = 1) = !decide (j % 2 = 1) := by
      rw [← Nat.testBit_zero, Nat.testBit_xor, Nat.testBit_zero, Nat.testBit_zero]; simp
    by_cases c : j % 2 = 1
    · rw [decide_eq_true c] at a
      have := of_decide_eq_false (show decide ((j ^^^ 1) % 2 = 1) = false from a)
      exact ⟨fun h => absurd h this, fun h => absurd c h⟩
    · rw [decide_eq_false c] at a
      have := of_decide_eq_true (show decide ((j ^^^ 1) % 2 = 1) = true from a)
      exact ⟨fun _ => c, fun _ => this⟩
  split <;> omega
theorem xor_blk (j o : Nat) : (j * 2 ^ o) ^^^ 2 ^ o = (j ^^^ 1) * 2 ^ o := by
  have := Nat.shiftLeft_xor_distrib (a := j) (b := 1) (i := o)
  rw [Nat.shiftLeft_eq, Nat.shiftLeft_eq, Nat.shiftLeft_eq, Nat.one_mul] at this
  exact this.symm

set_option maxHeartbeats 4000000 in
set_option maxRecDepth 1000000 in
theorem give_arg_walk (p : Nat) (x o : Int) (w : World)
    (cO : Calls Tryz.prog 137 #[.pointer (some ⟨p, 0, none⟩), .int .i64 x, .int .i64 o] w fun e w' => e = .returned (.bool false) ∧ w' = w) :
    Calls Tryz.prog 120 #[.pointer (some ⟨p, 0, none⟩), .int .i64 x, .int .i64 o] w fun e w' => e = .returned (.int .i64 1) ∧ w' = w := by
  go_enter Tryz.func120, Tryz.ntmps120
  go_wp2_with fail
  refine scope_again 0 (fun _ _ => False) (fun _ _ => 0) rfl (fun pass => ?_) (fun _ _ h => h.elim)
  clear pass
  go_wp2_with (first | (go_at_call 137; go_must (with_reducible refine cO.mono ?_); rintro e w' ⟨rfl, rfl⟩))
  simp only [Exit.jump]
  go_ret
  exact ⟨rfl, rfl⟩
set_option maxHeartbeats 4000000 in
set_option maxRecDepth 1000000 in
theorem give_state_walk (p f o : Nat) (w : World)
    (cO : Calls Tryz.prog 137 #[.pointer (some ⟨p, 0, none⟩), .int .i64 (f : Int), .int .i64 (o : Int)] w fun e w' => e = .returned (.bool true) ∧ w' = w)
    (cN : Calls Tryz.prog 138 #[.pointer (some ⟨p, 0, none⟩), .int .i64 (f : Int), .int .i64 (o : Int)] w fun e w' => e = .returned (.bool true) ∧ Dr w w') :
    Calls Tryz.prog 120 #[.pointer (some ⟨p, 0, none⟩), .int .i64 (f : Int), .int .i64 (o : Int)] w fun e w' => e = .returned (.int .i64 20) ∧ Dr w w' := by
  go_enter Tryz.func120, Tryz.ntmps120
  go_wp2_with fail
  refine scope_again 0 (fun _ _ => False) (fun _ _ => 0) rfl (fun pass => ?_) (fun _ _ h => h.elim)
  clear pass
  go_wp2_with (first | (go_at_call 137; go_must (with_reducible refine cO.mono ?_); rintro e w' ⟨rfl, rfl⟩) | (go_at_call 138; go_must (with_reducible refine cN.mono ?_); rintro e w1 ⟨rfl, H1⟩))
  simp only [Exit.jump]
  go_ret
  exact ⟨rfl, H1⟩
theorem sub_self {F : Nat → Bool} {o j : Nat} (h : ∀ k, k / 2 ^ o = j → F k = false) : subF (addF F o j) o j = F := by
  funext k
  apply Bool.eq_iff_iff.2
  rw [subF_iff, addF_iff]
  constructor
  · rintro ⟨h1 | h1, h2⟩
    · exact h1
    · exact absurd h1 h2
  · intro h1
    exact ⟨.inl h1, fun e => by rw [h k e] at h1; cases h1⟩
theorem add_self {F : Nat → Bool} {o j : Nat} (h : Al F o j) : addF (subF F o j) o j = F := by
  funext k
  apply Bool.eq_iff_iff.2
  rw [addF_iff, subF_iff]
  constructor
  · rintro (h1 | h1)
    · exact h1.1
    · exact h k h1
  · intro h1
    by_cases c : k / 2 ^ o = j
    · exact .inr c
    · exact .inl ⟨h1, c⟩
/-- The buddy of (o, j). -/
theorem sib_iff (k o j : Nat) : k / 2 ^ (o + 1) = j / 2 ↔ k / 2 ^ o = j ∨ k / 2 ^ o = j ^^^ 1 := by
  rw [div_par, xor_one]
  split <;> omega
theorem join_eq {T : Nat → Bool} {o j : Nat} : subF (subF T o j) o (j ^^^ 1) = subF T (o + 1) (j / 2) := by
  funext k
  apply Bool.eq_iff_iff.2
  rw [subF_iff, subF_iff, subF_iff, Ne, Ne, Ne, sib_iff]
  constructor
  · rintro ⟨⟨h1, h2⟩, h3⟩; exact ⟨h1, fun h => h.elim h2 h3⟩
  · rintro ⟨h1, h2⟩; exact ⟨⟨h1, fun h => h2 (.inl h)⟩, fun h => h2 (.inr h)⟩
section
variable {w : World} {U : Nat → Prop} {p lo hi : Nat} {F : Nat → Bool}
theorem give_ok (h : BF w U p lo hi F) (j o : Nat) (ho : o ≤ 9) (h1 : lo ≤ j * 2 ^ o) (h2 : j * 2 ^ o + 2 ^ o ≤ hi) (hn : ∀ k, k / 2 ^ o = j → F k = false) 
    (cO : Calls Tryz.prog 137 #[.pointer (some ⟨p, 0, none⟩), .int .i64 ((j * 2 ^ o : Nat) : Int), .int .i64 (o : Int)] w fun e w' => e = .returned (.bool true) ∧ w' = w)
    (cN : Calls Tryz.prog 138 #[.pointer (some ⟨p, 0, none⟩), .int .i64 ((j * 2 ^ o : Nat) : Int), .int .i64 (o : Int)] w fun e w' => e = .returned (.bool false) ∧ Dr w w') :
    Calls Tryz.prog 120 #[.pointer (some ⟨p, 0, none⟩), .int .i64 ((j * 2 ^ o : Nat) : Int), .int .i64 (o : Int)] w fun e w' => e = .returned (.int .i64 0) ∧ BF w' U p lo hi (addF F o j) ∧ Fr U w w' := by
  have hh := h.hh
  obtain ⟨T, hT⟩ : ∃ T, T = addF F o j := ⟨_, rfl⟩
  have dT : ∀ k, T k = true → lo ≤ k ∧ k < hi := fun k hk => by
    rw [hT] at hk
    rcases (addF_iff ..).1 hk with c | c
    · exact h.dom k c
    · have := (blk_iff ..).1 c
      generalize j * 2 ^ o = q at *
      generalize 2 ^ o = r at *
      omega
  have aT : Al T o j := fun k hk => by rw [hT]; exact (addF_iff ..).2 (.inr hk)
  have eF : subF T o j = F := by rw [hT]; exact sub_self hn
  have hfl : j * 2 ^ o ≤ 2097152 := by
    have := Nat.two_pow_pos o
    generalize j * 2 ^ o = q at *
    generalize 2 ^ o = r at *
    omega
  rw [← hT]
  clear hT
  refine give_walk p (j * 2 ^ o) o w (fun f o w' => ∃ j, f = j * 2 ^ o ∧ o ≤ 9 ∧ Al T o j ∧ BF w' U p lo hi (subF T o j) ∧ Fr U w w') (fun f o => rn (subF T o (f / 2 ^ o)) o ((f ^^^ 2 ^ o) / 2 ^ o)) (fun w' => BF w' U p lo hi T ∧ Fr U w w') hfl ho cO
    (cN.mono fun e w' ⟨e1, e2⟩ => ⟨e1, j, rfl, ho, aT, by rw [eF]; exact h.kp e2.kp, e2.kp.fr U⟩) ?_ ?_ ?_ ?_
  · rintro f a w' n ⟨i, h1, h2, h3, h4, h5⟩
    have k : Kp w' (w'.drewN n) := (Kp.refl w').drewN n
    exact ⟨i, h1, h2, h3, h4.kp k, h5.trans (k.fr U)⟩
  · rintro f a w' hf ha ⟨i, h1, h2, h3, h4, h5⟩
    subst h1
    rw [xor_blk, rep, rep]
    have hx : (i ^^^ 1) ≤ 2000000 * 2 := by
      have hi1 : i ≤ 2097152 := Nat.le_trans (Nat.le_mul_of_pos_right _ (Nat.two_pow_pos a)) hf
      rw [xor_one]; split <;> omega
    obtain ⟨wb, sz, lw, W, hm, hs⟩ := h4.bd
    have r3 := h3.range dT
    refine shas_any hm hs a _ (by omega) ?_
    have hi1 : i ≤ 1048576 := by
      have := Nat.le_mul_of_pos_right i (Nat.two_pow_pos a)
      generalize i * 2 ^ a = q at *
      generalize 2 ^ a = r at *
      omega
    rw [xor_one]; split <;> omega
  · rintro f a w' ha hB ⟨i, h1, h2, h3, h4, h5⟩
    subst h1
    rw [xor_blk, rep, rep] at hB
    have hR := (rn_iff ..).1 hB
    rw [xor_blk]
    refine (brem_bf h4 a (i ^^^ 1) _ (by omega) hR (rep _ _)).mono fun e w'' ⟨e1, e2, e3⟩ => ⟨e1, i / 2, ?_, by omega, ?_, ?_, h5.trans e3⟩
    · rw [Nat.pow_succ, Nat.mul_comm (2 ^ a) 2, ← Nat.mul_assoc]
      rw [xor_one]
      split
      · rw [Nat.min_eq_left (Nat.mul_le_mul_right _ (by omega)), show i / 2 * 2 = i by omega]
      · rw [Nat.min_eq_right (Nat.mul_le_mul_right _ (by omega)), show i / 2 * 2 = i - 1 by omega]
    · intro k hk
      rcases (sib_iff k a i).1 hk with c | c
      · exact h3 k c
      · exact ((subF_iff ..).1 (hR.1 k c)).1
    · rw [← join_eq]; exact e2
  · rintro f a w' hB ha ⟨i, h1, h2, h3, h4, h5⟩
    subst h1
    rw [xor_blk, rep, rep] at hB
    have r3 := h3.range dT
    have nG : ∀ k, k / 2 ^ a = i → subF T a i k = false := fun k hk => by
      cases hv : subF T a i k
      · rfl
      · exact absurd hk ((subF_iff ..).1 hv).2
    have := badd_bf h4 a i (i * 2 ^ a) ha nG (by
      rcases hB with e | e
      · exact .inl e
      · by_cases e9 : a = 9
        · exact .inl e9
        · right
          have nR := (rn_false ..).1 e
          have nA : ¬ Al (subF T a i) a (i ^^^ 1) := fun hA => nR ⟨hA, .inr (fun hP => by
            have := hP (i * 2 ^ a) (by rw [div_par, rep, xor_one]; split <;> omega)
            rw [nG _ (rep i a)] at this; cases this)⟩
          refine Classical.byContradiction fun hno => nA fun k hk => ?_
          cases hv : subF T a i k
          · exact absurd ⟨k, (sib_iff k a i).2 (.inr hk), by rw [hk, xor_one]; split <;> omega, hv⟩ hno
          · rfl) (rep i a) r3.1 r3.2
    rw [add_self h3] at this
    exact this.mono fun e w'' ⟨e1, e2, e3⟩ => ⟨e1, e2, h5.trans e3⟩
/-- What Give answers, and leaves. -/
def gvR (lo hi : Nat) (F : Nat → Bool) (x o : Int) : Int := if owns lo hi x o then (if anyF F x.toNat o.toNat then 20 else 0) else 1
def gvF (lo hi : Nat) (F : Nat → Bool) (x o : Int) : Nat → Bool := if owns lo hi x o && !anyF F x.toNat o.toNat then addF F o.toNat (x.toNat / 2 ^ o.toNat) else F
theorem owns_iff {lo hi : Nat} {x o : Int} (h : owns lo hi x o = true) : ∃ j a : Nat, o = (a : Int) ∧ a ≤ 9 ∧ x = ((j * 2 ^ a : Nat) : Int) ∧ lo ≤ j * 2 ^ a ∧ j * 2 ^ a + 2 ^ a ≤ hi := by
  obtain ⟨h1, h2, h3, h4, h5⟩ := of_decide_eq_true h
  obtain ⟨a, rfl⟩ : ∃ a : Nat, o = (a : Int) := ⟨o.toNat, by omega⟩
  obtain ⟨f, rfl⟩ : ∃ f : Nat, x = (f : Int) := ⟨x.toNat, by omega⟩
  rw [Int.toNat_natCast] at h3 h5
  have es : ((2 ^ a : Nat) : Int) = (2 : Int) ^ a := by push_cast; rfl
  rw [← es] at h3 h5
  rw [Int.tmod_eq_emod_of_nonneg (by omega)] at h3
  have h6 : f % 2 ^ a = 0 := by
    have : ((f % 2 ^ a : Nat) : Int) = 0 := by rw [Int.natCast_emod]; exact h3
    omega
  have h7 : f / 2 ^ a * 2 ^ a = f := Nat.div_mul_cancel (Nat.dvd_of_mod_eq_zero h6)
  refine ⟨f / 2 ^ a, a, rfl, by omega, by rw [h7], by rw [h7]; omega, ?_⟩
  rw [h7]
  generalize 2 ^ a = r at *
  omega
theorem give_any (h : BF w U p lo hi F) (x o : Int) :
    Calls Tryz.prog 120 #[.pointer (some ⟨p, 0, none⟩), .int .i64 x, .int .i64 o] w fun e w' => e = .returned (.int .i64 (gvR lo hi F x o)) ∧ BF w' U p lo hi (gvF lo hi F x o) ∧ Fr U w w' := by
  have cO := owns_any h x o
  unfold gvR gvF
  cases hO : owns lo hi x o
  · rw [hO] at cO
    rw [if_neg (by decide), Bool.false_and, if_neg (by decide)]
    exact (give_arg_walk p x o w cO).mono fun e w' ⟨e1, e2⟩ => ⟨e1, by rw [e2]; exact h, by rw [e2]; exact Fr.refl _ _⟩
  · rw [hO] at cO
    obtain ⟨j, a, rfl, ha, rfl, h1, h2⟩ := owns_iff hO
    have hh := h.hh
    have hp := Nat.two_pow_pos a
    have cN := anyFree_any h (j * 2 ^ a) a (by omega) (by generalize j * 2 ^ a = q at *; generalize 2 ^ a = r at *; omega)
    rw [if_pos rfl, Bool.true_and, Int.toNat_natCast, Int.toNat_natCast]
    cases hN : anyF F (j * 2 ^ a) a
    · rw [hN] at cN
      rw [if_neg (by decide), if_pos (by decide), rep]
      refine give_ok h j a ha h1 h2 (fun k hk => ?_) cO cN
      have hb := (blk_iff ..).1 hk
      have := anyF_false hN (k - j * 2 ^ a) (by omega)
      rwa [show j * 2 ^ a + (k - j * 2 ^ a) = k by omega] at this
    · rw [hN] at cN
      rw [if_pos rfl, if_neg (by decide)]
      exact (give_state_walk p (j * 2 ^ a) a w cO cN).mono fun e w' ⟨e1, e2⟩ => ⟨e1, h.kp e2.kp, e2.kp.fr U⟩
end
end Go.Proofs.YtanlcmdnhhdhaaaGreatDoor

/- The free runs as a list. -/
namespace Go.Proofs.YtanlcmdnhhdhaaaGreatDoor

def ordG (F : Nat → Bool) (f : Nat) : Nat → Nat → Nat
  | 0, o => o
  | n + 1, o => if rn F o (f / 2 ^ o) then o else ordG F f n (o + 1)
/-- The order of the run that the frame f lies in. -/
def ordF (F : Nat → Bool) (f : Nat) : Nat := ordG F f 10 0
theorem ordG_of {F : Nat → Bool} {f o : Nat} (h : rn F o (f / 2 ^ o) = true) : ∀ n a, a ≤ o → o < a + n → (∀ b, a ≤ b → b < o → rn F b (f / 2 ^ b) = false) → ordG F f n a = o
  | 0, a, h1, h2, _ => by omega
  | n + 1, a, h1, h2, h3 => by
    unfold ordG
    by_cases c : a = o
    · subst c; rw [if_pos h]
    · rw [h3 a (Nat.le_refl _) (by omega), if_neg (by decide)]
      exact ordG_of h n (a + 1) (by omega) (by omega) (fun b hb => h3 b (by omega))
theorem ord_of {F : Nat → Bool} {f o : Nat} (ho : o ≤ 9) (h : Rn F o (f / 2 ^ o)) : ordF F f = o :=
  ordG_of ((rn_iff ..).2 h) 10 0 (Nat.zero_le _) (by omega) (fun b _ hb => (rn_false ..).2 (fun c => by have := run_one (by omega) ho c h; omega))
theorem ord_spec {F : Nat → Bool} {f : Nat} (h : F f = true) : ordF F f ≤ 9 ∧ Rn F (ordF F f) (f / 2 ^ ordF F f) := by
  obtain ⟨o, h1, h2⟩ := run_of h
  rw [ord_of h1 h2]; exact ⟨h1, h2⟩

def rlf (F : Nat → Bool) (hi : Nat) : Nat → Nat → List (Nat × Nat)
  | 0, _ => []
  | n + 1, f => if f < hi then (if F f then (f, ordF F f) :: rlf F hi n (f + 2 ^ ordF F f) else rlf F hi n (f + 1)) else []
/-- The free runs from the frame f on. -/
def rl (F : Nat → Bool) (hi f : Nat) : List (Nat × Nat) := rlf F hi (hi - f) f
theorem rlf_fuel (F : Nat → Bool) (hi : Nat) : ∀ n m f, hi - f ≤ n → hi - f ≤ m → rlf F hi n f = rlf F hi m f
  | 0, 0, f, _, _ => rfl
  | 0, m + 1, f, h, _ => by unfold rlf; rw [if_neg (by omega)]
  | n + 1, 0, f, _, h => by unfold rlf; rw [if_neg (by omega)]
  | n + 1, m + 1, f, h1, h2 => by
    have hp := Nat.two_pow_pos (ordF F f)
    unfold rlf
    by_cases c : f < hi
    · rw [if_pos c, if_pos c]
      split
      · rw [rlf_fuel F hi n m _ (by omega) (by omega)]
      · exact rlf_fuel F hi n m _ (by omega) (by omega)
    · rw [if_neg c, if_neg c]
theorem rl_on {F : Nat → Bool} {hi f : Nat} (h : f < hi) (hF : F f = true) : rl F hi f = (f, ordF F f) :: rl F hi (f + 2 ^ ordF F f) := by
  have hp := Nat.two_pow_pos (ordF F f)
  unfold rl
  obtain ⟨n, hn⟩ : ∃ n, hi - f = n + 1 := ⟨hi - f - 1, by omega⟩
  rw [hn]
  conv => lhs; unfold rlf
  rw [if_pos h, if_pos hF, rlf_fuel F hi n (hi - (f + 2 ^ ordF F f)) _ (by omega) (Nat.le_refl _)]
theorem rl_off {F : Nat → Bool} {hi f : Nat} (h : f < hi) (hF : F f = false) : rl F hi f = rl F hi (f + 1) := by
  unfold rl
  obtain ⟨n, hn⟩ : ∃ n, hi - f = n + 1 := ⟨hi - f - 1, by omega⟩
  rw [hn]
  conv => lhs; unfold rlf
  rw [if_pos h, if_neg (by rw [hF]; decide), rlf_fuel F hi n (hi - (f + 1)) _ (by omega) (Nat.le_refl _)]
theorem rl_end {F : Nat → Bool} {hi f : Nat} (h : hi ≤ f) : rl F hi f = [] := by
  unfold rl
  rw [show hi - f = 0 by omega]; rfl
theorem mod_of {f o : Nat} (h : f / 2 ^ o * 2 ^ o = f) : f % 2 ^ o = 0 := Nat.mod_eq_zero_of_dvd ⟨f / 2 ^ o, by rw [Nat.mul_comm]; exact h.symm⟩

/-- No block of free frames lies on both sides of f. -/
def Cut (F : Nat → Bool) (f : Nat) : Prop := ∀ o i, o ≤ 9 → Al F o i → ¬ (i * 2 ^ o < f ∧ f < i * 2 ^ o + 2 ^ o)
theorem cut_next {F : Nat → Bool} {f o : Nat} (hc : Cut F f) (hf : f % 2 ^ o = 0) (hm : ∀ a, o < a → a ≤ 9 → f % 2 ^ a = 0 → ¬ Al F a (f / 2 ^ a)) : Cut F (f + 2 ^ o) := by
  intro a i ha hA ⟨h1, h2⟩
  have hp := Nat.two_pow_pos o
  have hfo : f / 2 ^ o * 2 ^ o = f := Nat.div_mul_cancel (Nat.dvd_of_mod_eq_zero hf)
  by_cases c : a ≤ o
  · have e1 : (f + 2 ^ o - 1) / 2 ^ a = i := (blk_iff ..).2 ⟨by omega, by omega⟩
    have e2 : (f + 2 ^ o - 1) / 2 ^ o = f / 2 ^ o := (blk_iff ..).2 ⟨by rw [hfo]; omega, by rw [hfo]; omega⟩
    have e3 := sub_blk c e1 e2 (f + 2 ^ o) ((blk_iff ..).2 ⟨by omega, by omega⟩)
    rw [Nat.add_div_right _ hp] at e3
    omega
  · have e1 : (f + 2 ^ o - 1) / 2 ^ a = i := (blk_iff ..).2 ⟨by omega, by omega⟩
    have e2 : (f + 2 ^ o - 1) / 2 ^ o = f / 2 ^ o := (blk_iff ..).2 ⟨by rw [hfo]; omega, by rw [hfo]; omega⟩
    have e3 : f / 2 ^ a = i := sub_blk (by omega) e2 e1 f rfl
    have e4 := (blk_iff ..).1 e3
    have e5 : i * 2 ^ a = f := by
      by_cases d : i * 2 ^ a < f
      · exact absurd ⟨d, e4.2⟩ (hc a i ha hA)
      · omega
    refine hm a (by omega) ha ?_ (by rw [e3]; exact hA)
    rw [← e5]
    exact Nat.mul_mod_left _ _
/-- A run that begins at a cut's right begins there. -/
theorem Cut.start {F : Nat → Bool} {f o : Nat} (hc : Cut F f) (ho : o ≤ 9) (h : Rn F o (f / 2 ^ o)) : f / 2 ^ o * 2 ^ o = f := by
  have hb := (blk_iff f o (f / 2 ^ o)).1 rfl
  by_cases c : f / 2 ^ o * 2 ^ o < f
  · exact absurd ⟨c, hb.2⟩ (hc o _ ho h.1)
  · omega
theorem Cut.on {F : Nat → Bool} {f o : Nat} (hc : Cut F f) (ho : o ≤ 9) (h : Rn F o (f / 2 ^ o)) : Cut F (f + 2 ^ o) := by
  have hs := hc.start ho h
  refine cut_next hc (mod_of hs) (fun a h1 h2 h3 hA => ?_)
  rcases h.2 with e | e
  · omega
  · rw [← div_par] at e
    exact e (hA.sub (k := f) (by omega) rfl rfl)
theorem cut_off {F : Nat → Bool} {f : Nat} (h : F f = false) : Cut F (f + 1) := by
  intro o i ho hA ⟨h1, h2⟩
  have := hA f ((blk_iff ..).2 ⟨by omega, by omega⟩)
  rw [h] at this; cases this

/-- What is in the list: the free runs, rising. -/
theorem rl_mem {F : Nat → Bool} {hi : Nat} (dom : ∀ k, F k = true → k < hi) : ∀ (n f : Nat), hi - f ≤ n → Cut F f → ∀ x o, (x, o) ∈ rl F hi f ↔ (f ≤ x ∧ o ≤ 9 ∧ x % 2 ^ o = 0 ∧ Rn F o (x / 2 ^ o)) := by
  intro n
  induction n with
  | zero =>
    intro f hn hc x o
    rw [rl_end (by omega)]
    constructor
    · intro h; cases h
    · rintro ⟨h1, h2, h3, h4⟩
      have := dom x (h4.1 x rfl)
      omega
  | succ n ih =>
    intro f hn hc x o
    by_cases c : f < hi
    · cases hF : F f
      · rw [rl_off c hF, ih (f + 1) (by omega) (cut_off hF)]
        constructor
        · rintro ⟨h1, h2⟩; exact ⟨by omega, h2⟩
        · rintro ⟨h1, h2, h3, h4⟩
          refine ⟨?_, h2, h3, h4⟩
          by_cases e : x = f
          · subst e; have := h4.1 x rfl; rw [hF] at this; cases this
          · omega
      · obtain ⟨o1, o2⟩ := ord_spec hF
        have hp := Nat.two_pow_pos (ordF F f)
        have hs := hc.start o1 o2
        rw [rl_on c hF, List.mem_cons, ih _ (by omega) (hc.on o1 o2)]
        constructor
        · rintro (h | ⟨h1, h2⟩)
          · cases h; exact ⟨Nat.le_refl _, o1, mod_of hs, o2⟩
          · exact ⟨by omega, h2⟩
        · rintro ⟨h1, h2, h3, h4⟩
          by_cases e : x < f + 2 ^ ordF F f
          · left
            have hb : x / 2 ^ ordF F f = f / 2 ^ ordF F f := (blk_iff ..).2 ⟨by omega, by omega⟩
            have eo : o = ordF F f := run_one h2 o1 h4 (by rw [hb]; exact o2)
            subst eo
            have : x / 2 ^ ordF F f * 2 ^ ordF F f = x := Nat.div_mul_cancel (Nat.dvd_of_mod_eq_zero h3)
            rw [hb, hs] at this
            rw [this]
          · exact .inr ⟨by omega, h2, h3, h4⟩
    · rw [rl_end (by omega)]
      constructor
      · intro h; cases h
      · rintro ⟨h1, h2, h3, h4⟩
        have := dom x (h4.1 x rfl)
        omega
/-- Rising, and apart. -/
theorem rl_rise {F : Nat → Bool} {hi : Nat} : ∀ (n f : Nat), hi - f ≤ n → (∀ x ∈ rl F hi f, f ≤ x.1) ∧ (rl F hi f).Pairwise (fun x y => x.1 + 2 ^ x.2 ≤ y.1) := by
  intro n
  induction n with
  | zero => intro f hn; rw [rl_end (by omega)]; exact ⟨fun x hx => (by cases hx), .nil⟩
  | succ n ih =>
    intro f hn
    by_cases c : f < hi
    · have hp := Nat.two_pow_pos (ordF F f)
      cases hF : F f
      · rw [rl_off c hF]
        obtain ⟨h1, h2⟩ := ih (f + 1) (by omega)
        exact ⟨fun x hx => by have := h1 x hx; omega, h2⟩
      · rw [rl_on c hF]
        obtain ⟨h1, h2⟩ := ih (f + 2 ^ ordF F f) (by omega)
        refine ⟨fun x hx => ?_, List.pairwise_cons.2 ⟨fun y hy => h1 y hy, h2⟩⟩
        rcases List.mem_cons.1 hx with e | e
        · subst e; exact Nat.le_refl _
        · have := h1 x e; omega
    · rw [rl_end (by omega)]; exact ⟨fun x hx => (by cases hx), .nil⟩
/-- The sum of the runs. -/
def sumR : List (Nat × Nat) → Nat
  | [] => 0
  | x :: r => 2 ^ x.2 + sumR r
theorem cnt_step {F : Nat → Bool} {a b : Nat} (hab : a ≤ b) (h : ∀ k, a ≤ k → k < b → F k = true) : cnt F b = cnt F a + (b - a) := by
  obtain ⟨d, rfl⟩ : ∃ d, b = a + d := ⟨b - a, by omega⟩
  induction d with
  | zero => simp
  | succ d ih =>
    have := ih (by omega) (fun k h1 h2 => h k h1 (by omega))
    rw [show a + (d + 1) = (a + d) + 1 by omega]
    show cnt F (a + d) + (if F (a + d) then 1 else 0) = _
    rw [this, if_pos (h (a + d) (by omega) (by omega))]
    omega
theorem rl_sum {F : Nat → Bool} {hi : Nat} (dom : ∀ k, F k = true → k < hi) : ∀ (n f : Nat), hi - f ≤ n → f ≤ hi → Cut F f → sumR (rl F hi f) + cnt F f = cnt F hi := by
  intro n
  induction n with
  | zero => intro f hn hf hc; rw [rl_end (by omega), show f = hi by omega]; simp [sumR]
  | succ n ih =>
    intro f hn hf hc
    by_cases c : f < hi
    · cases hF : F f
      · rw [rl_off c hF, ← ih (f + 1) (by omega) (by omega) (cut_off hF)]
        conv => rhs; unfold cnt
        rw [hF]; simp
      · obtain ⟨o1, o2⟩ := ord_spec hF
        have hp := Nat.two_pow_pos (ordF F f)
        have hs := hc.start o1 o2
        have hall : ∀ k, f ≤ k → k < f + 2 ^ ordF F f → F k = true := fun k h1 h2 => o2.1 k ((blk_iff ..).2 ⟨by omega, by omega⟩)
        have hle : f + 2 ^ ordF F f ≤ hi := by
          have := dom _ (hall (f + 2 ^ ordF F f - 1) (by omega) (by omega))
          omega
        rw [rl_on c hF, ← ih (f + 2 ^ ordF F f) (by omega) hle (hc.on o1 o2), cnt_step (a := f) (b := f + 2 ^ ordF F f) (by omega) hall]
        simp only [sumR]
        omega
    · rw [rl_end (by omega), show f = hi by omega]; simp [sumR]

end Go.Proofs.YtanlcmdnhhdhaaaGreatDoor

/- buddy.New. -/
namespace Go.Proofs.YtanlcmdnhhdhaaaGreatDoor
open Go.RowKit

theorem info_u64 : ∃ i, Tryz.prog.info? 37 = some i ∧ i.zero = some (.int .u64 0) ∧ i.size = 1 ∧ i.bytes = 8 := by
  have h : (Tryz.prog.info? 37).map (fun i => (i.zero, i.size, i.bytes)) = some (some (.int .u64 0), 1, 8) := by kernel_rfl
  obtain ⟨i, hi, e⟩ := Option.map_eq_some_iff.1 h
  simp only [Prod.mk.injEq] at e
  exact ⟨i, hi, e.1, e.2.1, e.2.2⟩
/-- n noughts. -/
def zeroW (n : Nat) : Array Value := madeCells #[Value.int .u64 0] n
theorem zeroW_get (n i : Nat) (h : i < n) : (zeroW n)[i]? = some (.int .u64 0) := by simp [zeroW, madeCells, h, Nat.mod_one]
theorem make_words (n : Nat) (w : World) (hn : n ≤ 1000000) :
    (Instr.makeSlice 100 (.int .i64 (n : Int)) (.int .i64 (n : Int))).run Tryz.prog w = .ok (.slice (some ⟨w.heap.size, 0, none⟩) n n) (w.alloc (.cells (zeroW n) 37)) := by
  obtain ⟨i0, hi, hz0, hz1, hz2⟩ := info_u64
  have := run_make (P := Tryz.prog) w 100 37 i0 (.int .u64 0) Tryz.underlying100 hi hz0 .i64 .i64 n n (by omega) (by omega) (by rw [hz2]; omega) (by omega)
  rw [hz1, Nat.mul_one] at this
  exact this
/-- Block b is n noughts. -/
def ZW (w : World) (b n : Nat) : Prop := w.heap[b]? = some (.cells (zeroW n) 37 (0, 0))
set_option maxHeartbeats 1000000 in
theorem newSet_any (b n : Nat) (w : World) (hb : (b : Int) ≤ 1048576) (hn : ((b : Int) + 64 - 1) / 64 = (n : Int)) (h1 : n ≤ 20000) :
    Calls Tryz.prog 101 #[.int .i64 (b : Int)] w fun e w' => (∃ g, e = .returned (.agg #[.slice (some ⟨g, 0, none⟩) n n, .int .i64 0, .int .i64 0]) ∧ ZW w' g n ∧ w.heap.size ≤ g) ∧ Kp w w' := by
  have hmk := fun w => make_words n w (by omega)
  have y1 : (n : Int) ≤ 20000 := by omega
  generalize hz : zeroW n = z at *
  go_enter Tryz.func101, Tryz.ntmps101
  go_wp2
  have e1 : (w.alloc (.cells #[.slice (some ⟨w.heap.size + 1, 0, none⟩) n n, .int .i64 0, .int .i64 0] 144)).heap.size = w.heap.size + 1 := by simp
  have g0 := ((Kp.refl (w.alloc (.cells #[.slice (some ⟨w.heap.size + 1, 0, none⟩) n n, .int .i64 0, .int .i64 0] 144))).alloc (.cells z 37)).block w.heap.size (by omega)
  rw [heap_alloc_new] at g0
  refine bodyPost_ret (results_cell_row rfl _ _ w.heap.size 144 _ (0, 0) _ rfl g0 Tryz.underlying144 rfl (by kernel_rfl)) rfl ?_
  refine ⟨⟨w.heap.size + 1, rfl, ?_, by omega⟩, ((Kp.refl w).alloc _).alloc _⟩
  have g1 := heap_alloc_new (w.alloc (.cells #[.slice (some ⟨w.heap.size + 1, 0, none⟩) n n, .int .i64 0, .int .i64 0] 144)) (.cells z 37)
  rw [e1] at g1
  unfold ZW
  rw [hz]
  exact g1

/-- The sets of the orders below k are made. -/
structure NB (w0 w : World) (p lo hi k : Nat) (wb : Nat → Nat) : Prop where
  kp : Kp w0 w
  pl : w0.heap.size ≤ p
  pr : p < w.heap.size
  c0 : w.cell? ⟨p, 0, none⟩ = some (.int .i64 (lo : Int))
  c1 : w.cell? ⟨p, 1, none⟩ = some (.int .i64 (hi : Int))
  c2 : w.cell? ⟨p, 2, none⟩ = some (.int .i64 0)
  cs : ∀ o, o < k → w.cell? ⟨p, 3 + o * 3, none⟩ = some (.slice (some ⟨wb o, 0, none⟩) (ln hi o) (ln hi o))
  cz : ∀ o, o < k → w.cell? ⟨p, 3 + o * 3 + 1, none⟩ = some (.int .i64 0)
  cl : ∀ o, o < k → w.cell? ⟨p, 3 + o * 3 + 2, none⟩ = some (.int .i64 0)
  ex : ∀ j, j < 33 → ∃ v, w.cell? ⟨p, j, none⟩ = some v
  fz : ∀ j, w.frozen? ⟨p, j, none⟩ = false
  zw : ∀ o, o < k → ZW w (wb o) (ln hi o)
  nb : ∀ o, o < k → wb o ≠ p ∧ w0.heap.size ≤ wb o
  inj : ∀ o o', o < k → o' < k → wb o = wb o' → o = o'
theorem ZW.lt {w : World} {b n : Nat} (h : ZW w b n) : b < w.heap.size := (Array.getElem?_eq_some_iff.1 h).1
theorem NB.next {w0 w w1 : World} {p lo hi k g : Nat} {wb : Nat → Nat} (h : NB w0 w p lo hi k wb) (kk : Kp w w1) (hg : w.heap.size ≤ g) (z : ZW w1 g (ln hi k)) (hk : k < 10) :
    NB w0 (((w1.setCell ⟨p, 3 + k * 3, none⟩ (.slice (some ⟨g, 0, none⟩) (ln hi k) (ln hi k))).setCell ⟨p, 3 + k * 3 + 1, none⟩ (.int .i64 0)).setCell ⟨p, 3 + k * 3 + 2, none⟩ (.int .i64 0)) p lo hi (k + 1) (fun o => if o = k then g else wb o) := by
  obtain ⟨w2, h2⟩ : ∃ w2, w2 = ((w1.setCell ⟨p, 3 + k * 3, none⟩ (.slice (some ⟨g, 0, none⟩) (ln hi k) (ln hi k))).setCell ⟨p, 3 + k * 3 + 1, none⟩ (.int .i64 0)).setCell ⟨p, 3 + k * 3 + 2, none⟩ (.int .i64 0) := ⟨_, rfl⟩
  rw [← h2]
  have k1 : ∀ j, w1.cell? ⟨p, j, none⟩ = w.cell? ⟨p, j, none⟩ := fun j => kk.cell (p := ⟨p, j, none⟩) h.pr
  have fr : Fr (· = p) w1 w2 := by rw [h2]; exact (((Fr.refl (· = p) w1).set ⟨p, 3 + k * 3, none⟩ _ (show p = p from rfl)).set ⟨p, 3 + k * 3 + 1, none⟩ _ (show p = p from rfl)).set ⟨p, 3 + k * 3 + 2, none⟩ _ (show p = p from rfl)
  have e0 : w2.cell? ⟨p, 3 + k * 3, none⟩ = some (.slice (some ⟨g, 0, none⟩) (ln hi k) (ln hi k)) := by
    obtain ⟨v, hv⟩ := h.ex (3 + k * 3) (by omega)
    rw [h2, World.cell?_setCell_other _ _ _ _ (ne_addr (.inr (by omega))), World.cell?_setCell_other _ _ _ _ (ne_addr (.inr (by omega)))]
    exact World.cell?_setCell_same _ _ _ ((k1 _).trans hv)
  have e1 : w2.cell? ⟨p, 3 + k * 3 + 1, none⟩ = some (.int .i64 0) := by
    obtain ⟨v, hv⟩ := h.ex (3 + k * 3 + 1) (by omega)
    rw [h2, World.cell?_setCell_other _ _ _ _ (ne_addr (.inr (by omega)))]
    exact World.cell?_setCell_same _ _ _ ((World.cell?_setCell_other _ _ _ _ (ne_addr (.inr (by omega)))).trans ((k1 _).trans hv))
  have e2 : w2.cell? ⟨p, 3 + k * 3 + 2, none⟩ = some (.int .i64 0) := by
    obtain ⟨v, hv⟩ := h.ex (3 + k * 3 + 2) (by omega)
    rw [h2]
    exact World.cell?_setCell_same _ _ _ ((World.cell?_setCell_other _ _ _ _ (ne_addr (.inr (by omega)))).trans ((World.cell?_setCell_other _ _ _ _ (ne_addr (.inr (by omega)))).trans ((k1 _).trans hv)))
  have eo : ∀ j, j ≠ 3 + k * 3 → j ≠ 3 + k * 3 + 1 → j ≠ 3 + k * 3 + 2 → w2.cell? ⟨p, j, none⟩ = w.cell? ⟨p, j, none⟩ := fun j j0 j1 j2 => by
    rw [h2, World.cell?_setCell_other _ _ _ _ (ne_addr (.inr (by omega))), World.cell?_setCell_other _ _ _ _ (ne_addr (.inr (by omega))), World.cell?_setCell_other _ _ _ _ (ne_addr (.inr (by omega)))]
    exact k1 j
  have gp : g ≠ p := by have := h.pr; omega
  have zo : ∀ b n, ZW w1 b n → b ≠ p → ZW w2 b n := fun b n hz hb => (fr.block b hz.lt hb).trans hz
  refine ⟨fr.kp (h.kp.trans kk) (fun i e => by rw [e]; exact h.pl), h.pl, Nat.lt_of_lt_of_le (Nat.lt_of_lt_of_le h.pr kk.size) fr.size, (eo _ (by omega) (by omega) (by omega)).trans h.c0, (eo _ (by omega) (by omega) (by omega)).trans h.c1, (eo _ (by omega) (by omega) (by omega)).trans h.c2, fun o ho => ?_, fun o ho => ?_, fun o ho => ?_, fun j hj => ?_, fun j => ?_, fun o ho => ?_, fun o ho => ?_, fun o o' ho ho' e => ?_⟩
  · by_cases c : o = k
    · subst c; rw [if_pos rfl]; exact e0
    · rw [if_neg c]; exact (eo _ (by omega) (by omega) (by omega)).trans (h.cs o (by omega))
  · by_cases c : o = k
    · subst c; exact e1
    · exact (eo _ (by omega) (by omega) (by omega)).trans (h.cz o (by omega))
  · by_cases c : o = k
    · subst c; exact e2
    · exact (eo _ (by omega) (by omega) (by omega)).trans (h.cl o (by omega))
  · by_cases j0 : j = 3 + k * 3
    · subst j0; exact ⟨_, e0⟩
    · by_cases j1 : j = 3 + k * 3 + 1
      · subst j1; exact ⟨_, e1⟩
      · by_cases j2 : j = 3 + k * 3 + 2
        · subst j2; exact ⟨_, e2⟩
        · obtain ⟨v, hv⟩ := h.ex j hj
          exact ⟨v, (eo j j0 j1 j2).trans hv⟩
  · rw [h2, World.frozen?_setCell, World.frozen?_setCell, World.frozen?_setCell]
    exact (kk.frz (p := ⟨p, j, none⟩) h.pr).trans (h.fz j)
  · show ZW w2 (if o = k then g else wb o) (ln hi o)
    by_cases c : o = k
    · subst c; rw [if_pos rfl]; exact zo _ _ z gp
    · rw [if_neg c]
      have hz := h.zw o (by omega)
      exact zo _ _ ((kk.block _ hz.lt).trans hz) (h.nb o (by omega)).1
  · show (if o = k then g else wb o) ≠ p ∧ w0.heap.size ≤ (if o = k then g else wb o)
    by_cases c : o = k
    · rw [if_pos c]; exact ⟨gp, Nat.le_trans h.kp.size hg⟩
    · rw [if_neg c]; exact h.nb o (by omega)
  · have hlt : ∀ o, o < k → wb o < w.heap.size := fun o ho => (h.zw o ho).lt
    have e' : (if o = k then g else wb o) = (if o' = k then g else wb o') := e
    by_cases c : o = k
    · by_cases c' : o' = k
      · omega
      · rw [if_pos c, if_neg c'] at e'; have := hlt o' (by omega); omega
    · by_cases c' : o' = k
      · rw [if_neg c, if_pos c'] at e'; have := hlt o (by omega); omega
      · rw [if_neg c, if_neg c'] at e'; exact h.inj o o' (by omega) (by omega) e'
theorem NB.drew {w0 w : World} {p lo hi k : Nat} {wb : Nat → Nat} (h : NB w0 w p lo hi k wb) : NB w0 w.drew p lo hi k wb :=
  ⟨h.kp.drew, h.pl, h.pr, h.c0, h.c1, h.c2, h.cs, h.cz, h.cl, h.ex, h.fz, h.zw, h.nb, h.inj⟩
/-- All sets are made: nothing is free. -/
theorem NB.done {w0 w : World} {p lo hi : Nat} {wb : Nat → Nat} (h : NB w0 w p lo hi 10 wb) (T : TAB w0) (hh : hi ≤ 1048576) (hl : lo ≤ hi) :
    ∃ U : Nat → Prop, BF w U p lo hi (fun _ => false) ∧ ∀ k, U k → w0.heap.size ≤ k := by
  have h0 := T.lt
  have al0 : ∀ o i, al (fun _ => false) o i = false := fun o => by
    induction o with
    | zero => intro i; rfl
    | succ o ih => intro i; unfold al; rw [ih]; rfl
  have rn0 : ∀ o i, rn (fun _ => false) o i = false := fun o i => by unfold rn; rw [al0]; rfl
  have cn0 : ∀ n, cnt (fun _ => false) n = 0 := fun n => (cnt_zero n).2 (fun _ _ => rfl)
  refine ⟨fun k => k = p ∨ ∃ o, o < 10 ∧ k = wb o, ⟨⟨wb, fun _ => 0, fun _ => 0, fun _ _ => 0, ⟨?_, .inl rfl, fun o ho => .inr ⟨o, ho, rfl⟩, ?_, T.kp h.kp, h.c0, h.c1, by rw [cn0]; exact h.c2, h.cs, h.cz, h.cl, h.fz, fun o ho q hq => ?_, fun o ho q => ?_, fun o ho => (h.nb o ho).1, h.inj, fun _ _ => by omega, hh⟩, ⟨fun o q b _ _ => by rw [rn0, Nat.zero_testBit], fun o i _ hi => (by rw [rn0] at hi; cases hi), fun o _ => ((cnt_zero _).2 (fun i _ => rn0 o i)).symm, fun o i _ hi => (by rw [rn0] at hi; cases hi)⟩⟩, fun k hk => (by cases hk), hl⟩, ?_⟩
  · rintro k (rfl | ⟨o, ho, rfl⟩)
    · exact h.pr
    · exact (h.zw o ho).lt
  · rintro (e | ⟨o, ho, e⟩)
    · have := h.pl; omega
    · have := (h.nb o ho).2; omega
  · rw [cell_of_row w (wb o) q _ _ _ (h.zw o ho), zeroW_get _ _ hq]; rfl
  · exact frozen_of_row w (wb o) q _ _ (h.zw o ho)
  · rintro k (rfl | ⟨o, ho, rfl⟩)
    · exact h.pl
    · exact (h.nb o ho).2
theorem NB.start (w : World) (lo hi : Nat) (cs : Array Value) (hc : cs.size = 33) (h0 : cs[0]? = some (.int .i64 (lo : Int))) (h1 : cs[1]? = some (.int .i64 (hi : Int))) (h2 : cs[2]? = some (.int .i64 0)) :
    NB w (w.alloc (.cells cs 147)) w.heap.size lo hi 0 (fun _ => 0) := by
  have hr := heap_alloc_new w (.cells cs 147)
  refine ⟨(Kp.refl w).alloc _, Nat.le_refl _, by simp, by rw [cell_of_row _ _ 0 _ _ _ hr]; exact h0, by rw [cell_of_row _ _ 1 _ _ _ hr]; exact h1, by rw [cell_of_row _ _ 2 _ _ _ hr]; exact h2, fun o ho => by omega, fun o ho => by omega, fun o ho => by omega, fun j hj => ?_, fun j => frozen_of_row _ _ j _ _ hr, fun o ho => by omega, fun o ho => by omega, fun o o' ho => by omega⟩
  rw [cell_of_row _ _ j _ _ _ hr, Array.getElem?_eq_getElem (by omega)]
  exact ⟨_, rfl⟩

/-- The frames from a to b - 1. -/
def ivl (a b : Nat) : Nat → Bool := fun k => decide (a ≤ k ∧ k < b)
theorem ivl_iff (a b k : Nat) : ivl a b k = true ↔ a ≤ k ∧ k < b := by simp [ivl]
theorem cut_lo {F : Nat → Bool} {lo hi : Nat} (dom : ∀ k, F k = true → lo ≤ k ∧ k < hi) : Cut F lo := by
  intro o i _ hA ⟨h1, h2⟩
  have := hA.range dom
  omega
theorem new_step {lo hi f o : Nat} (h1 : lo ≤ f) (h3 : Cut (ivl lo hi) f) (ho : o ≤ 9) (hf : f % 2 ^ o = 0) (hl : 2 ^ o ≤ hi - f) (hlt : f < hi) (hm : ∀ o', o' ≤ 9 → f % 2 ^ o' = 0 → 2 ^ o' ≤ hi - f → o' ≤ o) :
    (∀ k, k / 2 ^ o = f / 2 ^ o → ivl lo f k = false) ∧ (o = 9 ∨ ∃ k, k / 2 ^ (o + 1) = f / 2 ^ o / 2 ∧ k / 2 ^ o ≠ f / 2 ^ o ∧ ivl lo f k = false) ∧ addF (ivl lo f) o (f / 2 ^ o) = ivl lo (f + 2 ^ o) ∧ Cut (ivl lo hi) (f + 2 ^ o) ∧ f / 2 ^ o * 2 ^ o = f := by
  have hp := Nat.two_pow_pos o
  have hfo : f / 2 ^ o * 2 ^ o = f := Nat.div_mul_cancel (Nat.dvd_of_mod_eq_zero hf)
  have inB : ∀ k, k / 2 ^ o = f / 2 ^ o ↔ f ≤ k ∧ k < f + 2 ^ o := fun k => by rw [blk_iff, hfo]
  have noA : ∀ a, o < a → a ≤ 9 → f % 2 ^ a = 0 → ¬ Al (ivl lo hi) a (f / 2 ^ a) := fun a h4 h5 h6 hA => by
    have hr := hA.range (lo := lo) (hi := hi) (fun k hk => (ivl_iff ..).1 hk)
    rw [Nat.div_mul_cancel (Nat.dvd_of_mod_eq_zero h6)] at hr
    have := hm a h5 h6 (by omega)
    omega
  refine ⟨fun k hk => ?_, ?_, ?_, cut_next h3 hf noA, hfo⟩
  · have := (inB k).1 hk
    cases hv : ivl lo f k
    · rfl
    · have := (ivl_iff ..).1 hv; omega
  · by_cases e9 : o = 9
    · exact .inl e9
    · right
      refine Classical.byContradiction fun hno => ?_
      -- the whole block of the next order would be free
      have hA : Al (ivl lo hi) (o + 1) (f / 2 ^ (o + 1)) := fun k hk => by
        rw [div_par f o] at hk
        by_cases c : k / 2 ^ o = f / 2 ^ o
        · have := (inB k).1 c
          exact (ivl_iff ..).2 (by omega)
        · cases hv : ivl lo f k
          · exact absurd ⟨k, hk, c, hv⟩ hno
          · have := (ivl_iff ..).1 hv
            exact (ivl_iff ..).2 (by omega)
      by_cases c : f % 2 ^ (o + 1) = 0
      · exact noA (o + 1) (by omega) (by omega) c hA
      · have hb := (blk_iff f (o + 1) (f / 2 ^ (o + 1))).1 rfl
        refine h3 (o + 1) _ (by omega) hA ⟨?_, hb.2⟩
        have := Nat.div_add_mod f (2 ^ (o + 1))
        rw [Nat.mul_comm] at this
        generalize f / 2 ^ (o + 1) * 2 ^ (o + 1) = q at *
        omega
  · funext k
    apply Bool.eq_iff_iff.2
    rw [addF_iff, ivl_iff, ivl_iff, inB]
    omega
theorem ivl_dom (a b : Nat) : ∀ k, ivl a b k = true → a ≤ k ∧ k < b := fun _ hk => (ivl_iff ..).1 hk
/-- Between the rounds of New's second loop. -/
structure NI (w wr : World) (U : Nat → Prop) (p lo hi f : Nat) : Prop where
  bf : BF wr U p lo hi (ivl lo f)
  kp : Kp w wr
  cut : Cut (ivl lo hi) f
  new : ∀ k, U k → w.heap.size ≤ k
set_option maxHeartbeats 4000000 in
set_option maxRecDepth 100000 in
theorem new_walk (lo n hi : Nat) (w : World) (T : TAB w) (h1 : (lo : Int) ≤ 1048576) (h2 : (n : Int) ≤ 1048576 - lo) (hh : lo + n = hi) :
    Calls Tryz.prog 69 #[.int .i64 (lo : Int), .int .i64 (n : Int)] w fun e w' => e = .returned (.tuple #[.pointer (some ⟨w.heap.size, 0, none⟩), .int .i64 0]) ∧ ∃ U, NI w w' U w.heap.size lo hi hi := by
  have y1 : ¬ (lo : Int) < 0 := by omega
  have y2 : ¬ (1048576 : Int) < lo := by omega
  have y3 : ¬ (n : Int) < 0 := by omega
  have y4 : ¬ (1048576 - lo : Int) < n := by omega
  have y5 : (lo : Int) + n = hi := by omega
  have y6 : (hi : Int) ≤ 1048576 := by omega
  have y7 : lo ≤ hi := by omega
  have HT : Hid (TAB w) := T
  have N0 : Aside (∀ cs : Array Value, cs.size = 33 → cs[0]? = some (.int .i64 (lo : Int)) → cs[1]? = some (.int .i64 (hi : Int)) → cs[2]? = some (.int .i64 0) → NB w (w.alloc (.cells cs 147)) w.heap.size lo hi 0 (fun _ => 0)) := fun cs a b c d => NB.start w lo hi cs a b c d
  clear T hh
  go_enter Tryz.func69, Tryz.ntmps69
  go_wp2_with fail
  generalize hwp : w.heap.size = p at *
  go_loopg [32] 11 (fun g v32 wr => ∃ (k : Nat) (wb : Nat → Nat), v32 = .int .i64 (k : Int) ∧ k ≤ 10 ∧ 11 - k ≤ g ∧ Hid (NB w wr p lo hi k wb))
  case atStart => exact ⟨0, fun _ => 0, rfl, by omega, by omega, N0.out _ rfl rfl rfl rfl⟩
  case round =>
    obtain ⟨k, wb, rfl, hk, hg, HN⟩ := hrel
    by_cases e : k < 10
    · have z1 : (k : Int) < 10 := by omega
      have hsh := shr_nat hi k
      have hle := Nat.div_le_self hi (2 ^ k)
      have cN := newSet_any (hi / 2 ^ k) (ln hi k) wr.drew (by omega) (by unfold ln; omega) (by have := ln_le (show hi ≤ 1048576 by omega) k; omega)
      have c1 := HN.out.c1
      have KS : Aside (∀ w', Kp wr.drew w' → w'.cell? ⟨p, 1, none⟩ = some (.int .i64 (hi : Int))) := fun w' kk => (kk.cell (p := ⟨p, 1, none⟩) HN.out.drew.pr).trans HN.out.c1
      generalize hi / 2 ^ k = d at *
      obtain ⟨v0, hv0⟩ := HN.out.ex (3 + k * 3) (by omega)
      obtain ⟨v1, hv1⟩ := HN.out.ex (3 + k * 3 + 1) (by omega)
      obtain ⟨v2, hv2⟩ := HN.out.ex (3 + k * 3 + 2) (by omega)
      have K3 : Aside (∀ w', Kp wr.drew w' → w'.cell? ⟨p, 3 + k * 3, none⟩ = some v0 ∧ w'.cell? ⟨p, 3 + k * 3 + 1, none⟩ = some v1 ∧ w'.cell? ⟨p, 3 + k * 3 + 2, none⟩ = some v2 ∧ (∀ j, w'.frozen? ⟨p, j, none⟩ = false)) := fun w' kk => ⟨(kk.cell (p := ⟨p, 3 + k * 3, none⟩) HN.out.drew.pr).trans hv0, (kk.cell (p := ⟨p, 3 + k * 3 + 1, none⟩) HN.out.drew.pr).trans hv1, (kk.cell (p := ⟨p, 3 + k * 3 + 2, none⟩) HN.out.drew.pr).trans hv2, fun j => (kk.frz (p := ⟨p, j, none⟩) HN.out.drew.pr).trans (HN.out.fz j)⟩
      clear hv0 hv1 hv2
      go_wp2_with fail
      go_region_held3 (fun w' => w'.cell? ⟨p, 1, none⟩ = some (.int .i64 (hi : Int))) (first | go_keep | exact KS.out _ K1 | (rw [World.cell?_setCell_other _ _ _ _ (ne_addr (.inr (by omega))), World.cell?_setCell_other _ _ _ _ (ne_addr (.inr (by omega))), World.cell?_setCell_other _ _ _ _ (ne_addr (.inr (by omega)))]; exact KS.out _ K1)) (first | (go_at_call 101; go_must (with_reducible refine cN.mono ?_); rintro e w1 ⟨⟨gb, rfl, Z1, G1⟩, K1⟩; obtain ⟨d0, d1, d2, df⟩ := K3.out w1 K1; have df0 := df (3 + k * 3); have df1 := df (3 + k * 3 + 1); have df2 := df (3 + k * 3 + 2); clear df))
      have HN2 : Hid (NB w (((w1.setCell ⟨p, 3 + k * 3, none⟩ (.slice (some ⟨gb, 0, none⟩) (ln hi k) (ln hi k))).setCell ⟨p, 3 + k * 3 + 1, none⟩ (.int .i64 0)).setCell ⟨p, 3 + k * 3 + 2, none⟩ (.int .i64 0)) p lo hi (k + 1) (fun o => if o = k then gb else wb o)) := HN.out.drew.next K1 G1 Z1 e
      clear HN K1 G1 Z1 d0 d1 d2 df0 df1 df2 c1 cN K3 KS
      go_wp2
      go_roundg (11 - (k + 1))
      case measure => omega
      case rel => exact ⟨k + 1, _, by go_num, by omega, by omega, HN2⟩
    · have ek : k = 10 := by omega
      subst ek
      obtain ⟨U, B0, N0'⟩ := HN.out.done HT.out (by omega) y7
      rw [show ((10 : Nat) : Int) = 10 from rfl]
      have I0 : Hid (NI w wr U p lo hi lo) := ⟨by
        have e : ivl lo lo = fun _ => false := funext fun k => by simp [ivl]
        rw [e]; exact B0, HN.out.kp, cut_lo (ivl_dom lo hi), N0'⟩
      clear HN B0 N0'
      go_wp2_with fail
      go_loopg [8] (hi + 1) (fun g v8 wr => ∃ f : Nat, v8 = .int .i64 (f : Int) ∧ lo ≤ f ∧ f ≤ hi ∧ hi + 1 - f ≤ g ∧ Hid (NI w wr U p lo hi f))
      case atStart => exact ⟨lo, rfl, by omega, by omega, by omega, I0⟩
      case round =>
        clear I0
        obtain ⟨f, rfl, f1, f2, hg, HI⟩ := hrel
        have c1 := HI.out.bf.c.2.1
        have z0 : (f : Int) ≤ hi := by omega
        by_cases e : f < hi
        · have z1 : (f : Int) < hi := by omega
          obtain ⟨o, cG, o1, o2, o3, o4⟩ := greatest_any HI.out.bf.tab f (hi - f) (by omega) (by omega) (by omega)
          rw [show ((hi - f : Nat) : Int) = (hi : Int) - f by omega] at cG
          obtain ⟨q1, q2, q3, q4, q5⟩ := new_step f1 HI.out.cut o1 o2 o3 e o4
          have hp := Nat.two_pow_pos o
          have cA := badd_bf HI.out.bf o (f / 2 ^ o) f o1 q1 q2 rfl (by rw [q5]; exact f1) (by rw [q5]; omega)
          rw [q3] at cA
          obtain ⟨e1, e2⟩ := pow_wrap (show o < 10 by omega)
          have HN : Aside (∀ w', BF w' U p lo hi (ivl lo (f + 2 ^ o)) → Fr U wr w' → NI w w' U p lo hi (f + 2 ^ o)) := fun w' b k => ⟨b, k.kp HI.out.kp HI.out.new, q4, HI.out.new⟩
          have z2 : (o : Int) < 10 := by omega
          clear q1 q2 q3 q4 q5 o1 o2 o4
          have O3 : Hid (2 ^ o ≤ hi - f ∧ 0 < 2 ^ o) := ⟨o3, hp⟩
          clear o3 hp
          generalize 2 ^ o = s at *
          go_wp2_with (first | (go_at_call 102; go_must (with_reducible refine cG.mono ?_); rintro e w' ⟨rfl, rfl⟩) | (go_at_call 103; go_must (with_reducible refine cA.mono ?_); rintro e w2 ⟨rfl, B2, F2⟩))
          have HN2 : Hid (NI w w2 U p lo hi (f + s)) := HN.out w2 B2 F2
          clear B2 F2 HN HI
          go_roundg (hi + 1 - (f + s))
          case measure => have := O3.out; omega
          case rel => exact ⟨f + s, by go_num, by omega, by have := O3.out; omega, by omega, HN2⟩
        · have ef : f = hi := by omega
          subst ef
          have HW : Hid (w.heap.size = p) := hwp
          clear hwp
          go_wp2
          go_ret2
          exact ⟨by rw [HW.out]; rfl, U, by rw [HW.out]; exact HI.out⟩
theorem bnew_ok (lo n : Nat) (w : World) (T : TAB w) (h1 : lo ≤ 1048576) (h2 : n ≤ 1048576 - lo) :
    Calls Tryz.prog 69 #[.int .i64 (lo : Int), .int .i64 (n : Int)] w fun e w' => (∃ p U, e = .returned (.tuple #[.pointer (some ⟨p, 0, none⟩), .int .i64 0]) ∧ BF w' U p lo (lo + n) (ivl lo (lo + n)) ∧ ∀ k, U k → w.heap.size ≤ k) ∧ Kp w w' :=
  (new_walk lo n (lo + n) w T (by omega) (by omega) rfl).mono fun e w' ⟨e1, U, e2⟩ => ⟨⟨_, U, e1, e2.bf, e2.new⟩, e2.kp⟩
set_option maxHeartbeats 1000000 in
theorem bnew_no (lo n : Int) (w : World) (h : ¬ (0 ≤ lo ∧ lo ≤ 1048576 ∧ 0 ≤ n ∧ n ≤ 1048576 - lo)) :
    Calls Tryz.prog 69 #[.int .i64 lo, .int .i64 n] w fun e w' => e = .returned (.tuple #[.pointer none, .int .i64 1]) ∧ w' = w := by
  by_cases d1 : lo < 0
  · clear h
    go_enter Tryz.func69, Tryz.ntmps69
    go_wp2
    go_ret2
    exact ⟨rfl, rfl⟩
  · by_cases d2 : (1048576 : Int) < lo
    · clear h
      go_enter Tryz.func69, Tryz.ntmps69
      go_wp2
      go_ret2
      exact ⟨rfl, rfl⟩
    · by_cases d3 : n < 0
      · clear h
        go_enter Tryz.func69, Tryz.ntmps69
        go_wp2
        go_ret2
        exact ⟨rfl, rfl⟩
      · have d4 : (1048576 - lo : Int) < n := by omega
        clear h
        go_enter Tryz.func69, Tryz.ntmps69
        go_wp2
        go_ret2
        exact ⟨rfl, rfl⟩
end Go.Proofs.YtanlcmdnhhdhaaaGreatDoor
