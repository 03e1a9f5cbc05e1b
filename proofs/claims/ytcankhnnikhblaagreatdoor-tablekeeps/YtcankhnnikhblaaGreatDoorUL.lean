/- The free runs as a list. -/
import Derived.Test.YtcankhnnikhblaaGreatDoorUP
namespace Go.Proofs.YtcankhnnikhblaaGreatDoor

def ordG (F : Nat → Bool) (f : Nat) : Nat → Nat → Nat
  | 0, o => o
  | n + 1, o => if rn F o (f / 2 ^ o) then o else ordG F f n (o + 1)
/-- The order of the run that the frame f lies in. -/
def ordF (F : Nat → Bool) (f : Nat) : Nat := ordG F f 10 0
theorem ordG_of {F : Nat → Bool} {f o : Nat} (h : rn F o (f / 2 ^ o) = true) : ∀ n a, a ≤ o → o < a + n → (∀ b, a ≤ b → b < o → rn F b (f / 2 ^ b) = false) → ordG F f n a = o
  | 0, a, h1, h2, _ => by omega
  | n + 1, a, h1, h2, h3 => by
    unfold ordG
    by_cases c : a = o
    · subst c; rw [if_pos h]
    · rw [h3 a (Nat.le_refl _) (by omega), if_neg (by decide)]
      exact ordG_of h n (a + 1) (by omega) (by omega) (fun b hb => h3 b (by omega))
theorem ord_of {F : Nat → Bool} {f o : Nat} (ho : o ≤ 9) (h : Rn F o (f / 2 ^ o)) : ordF F f = o :=
  ordG_of ((rn_iff ..).2 h) 10 0 (Nat.zero_le _) (by omega) (fun b _ hb => (rn_false ..).2 (fun c => by have := run_one (by omega) ho c h; omega))
theorem ord_spec {F : Nat → Bool} {f : Nat} (h : F f = true) : ordF F f ≤ 9 ∧ Rn F (ordF F f) (f / 2 ^ ordF F f) := by
  obtain ⟨o, h1, h2⟩ := run_of h
  rw [ord_of h1 h2]; exact ⟨h1, h2⟩

def rlf (F : Nat → Bool) (hi : Nat) : Nat → Nat → List (Nat × Nat)
  | 0, _ => []
  | n + 1, f => if f < hi then (if F f then (f, ordF F f) :: rlf F hi n (f + 2 ^ ordF F f) else rlf F hi n (f + 1)) else []
/-- The free runs from the frame f on. -/
def rl (F : Nat → Bool) (hi f : Nat) : List (Nat × Nat) := rlf F hi (hi - f) f
theorem rlf_fuel (F : Nat → Bool) (hi : Nat) : ∀ n m f, hi - f ≤ n → hi - f ≤ m → rlf F hi n f = rlf F hi m f
  | 0, 0, f, _, _ => rfl
  | 0, m + 1, f, h, _ => by unfold rlf; rw [if_neg (by omega)]
  | n + 1, 0, f, _, h => by unfold rlf; rw [if_neg (by omega)]
  | n + 1, m + 1, f, h1, h2 => by
    have hp := Nat.two_pow_pos (ordF F f)
    unfold rlf
    by_cases c : f < hi
    · rw [if_pos c, if_pos c]
      split
      · rw [rlf_fuel F hi n m _ (by omega) (by omega)]
      · exact rlf_fuel F hi n m _ (by omega) (by omega)
    · rw [if_neg c, if_neg c]
theorem rl_on {F : Nat → Bool} {hi f : Nat} (h : f < hi) (hF : F f = true) : rl F hi f = (f, ordF F f) :: rl F hi (f + 2 ^ ordF F f) := by
  have hp := Nat.two_pow_pos (ordF F f)
  unfold rl
  obtain ⟨n, hn⟩ : ∃ n, hi - f = n + 1 := ⟨hi - f - 1, by omega⟩
  rw [hn]
  conv => lhs; unfold rlf
  rw [if_pos h, if_pos hF, rlf_fuel F hi n (hi - (f + 2 ^ ordF F f)) _ (by omega) (Nat.le_refl _)]
theorem rl_off {F : Nat → Bool} {hi f : Nat} (h : f < hi) (hF : F f = false) : rl F hi f = rl F hi (f + 1) := by
  unfold rl
  obtain ⟨n, hn⟩ : ∃ n, hi - f = n + 1 := ⟨hi - f - 1, by omega⟩
  rw [hn]
  conv => lhs; unfold rlf
  rw [if_pos h, if_neg (by rw [hF]; decide), rlf_fuel F hi n (hi - (f + 1)) _ (by omega) (Nat.le_refl _)]
theorem rl_end {F : Nat → Bool} {hi f : Nat} (h : hi ≤ f) : rl F hi f = [] := by
  unfold rl
  rw [show hi - f = 0 by omega]; rfl
theorem mod_of {f o : Nat} (h : f / 2 ^ o * 2 ^ o = f) : f % 2 ^ o = 0 := Nat.mod_eq_zero_of_dvd ⟨f / 2 ^ o, by rw [Nat.mul_comm]; exact h.symm⟩

/-- No block of free frames lies on both sides of f. -/
def Cut (F : Nat → Bool) (f : Nat) : Prop := ∀ o i, o ≤ 9 → Al F o i → ¬ (i * 2 ^ o < f ∧ f < i * 2 ^ o + 2 ^ o)
theorem cut_next {F : Nat → Bool} {f o : Nat} (hc : Cut F f) (hf : f % 2 ^ o = 0) (hm : ∀ a, o < a → a ≤ 9 → f % 2 ^ a = 0 → ¬ Al F a (f / 2 ^ a)) : Cut F (f + 2 ^ o) := by
  intro a i ha hA ⟨h1, h2⟩
  have hp := Nat.two_pow_pos o
  have hfo : f / 2 ^ o * 2 ^ o = f := Nat.div_mul_cancel (Nat.dvd_of_mod_eq_zero hf)
  by_cases c : a ≤ o
  · have e1 : (f + 2 ^ o - 1) / 2 ^ a = i := (blk_iff ..).2 ⟨by omega, by omega⟩
    have e2 : (f + 2 ^ o - 1) / 2 ^ o = f / 2 ^ o := (blk_iff ..).2 ⟨by rw [hfo]; omega, by rw [hfo]; omega⟩
    have e3 := sub_blk c e1 e2 (f + 2 ^ o) ((blk_iff ..).2 ⟨by omega, by omega⟩)
    rw [Nat.add_div_right _ hp] at e3
    omega
  · have e1 : (f + 2 ^ o - 1) / 2 ^ a = i := (blk_iff ..).2 ⟨by omega, by omega⟩
    have e2 : (f + 2 ^ o - 1) / 2 ^ o = f / 2 ^ o := (blk_iff ..).2 ⟨by rw [hfo]; omega, by rw [hfo]; omega⟩
    have e3 : f / 2 ^ a = i := sub_blk (by omega) e2 e1 f rfl
    have e4 := (blk_iff ..).1 e3
    have e5 : i * 2 ^ a = f := by
      by_cases d : i * 2 ^ a < f
      · exact absurd ⟨d, e4.2⟩ (hc a i ha hA)
      · omega
    refine hm a (by omega) ha ?_ (by rw [e3]; exact hA)
    rw [← e5]
    exact Nat.mul_mod_left _ _
/-- A run that begins at a cut's right begins there. -/
theorem Cut.start {F : Nat → Bool} {f o : Nat} (hc : Cut F f) (ho : o ≤ 9) (h : Rn F o (f / 2 ^ o)) : f / 2 ^ o * 2 ^ o = f := by
  have hb := (blk_iff f o (f / 2 ^ o)).1 rfl
  by_cases c : f / 2 ^ o * 2 ^ o < f
  · exact absurd ⟨c, hb.2⟩ (hc o _ ho h.1)
  · omega
theorem Cut.on {F : Nat → Bool} {f o : Nat} (hc : Cut F f) (ho : o ≤ 9) (h : Rn F o (f / 2 ^ o)) : Cut F (f + 2 ^ o) := by
  have hs := hc.start ho h
  refine cut_next hc (mod_of hs) (fun a h1 h2 h3 hA => ?_)
  rcases h.2 with e | e
  · omega
  · rw [← div_par] at e
    exact e (hA.sub (k := f) (by omega) rfl rfl)
theorem cut_off {F : Nat → Bool} {f : Nat} (h : F f = false) : Cut F (f + 1) := by
  intro o i ho hA ⟨h1, h2⟩
  have := hA f ((blk_iff ..).2 ⟨by omega, by omega⟩)
  rw [h] at this; cases this

/-- What is in the list: the free runs, rising. -/
theorem rl_mem {F : Nat → Bool} {hi : Nat} (dom : ∀ k, F k = true → k < hi) : ∀ (n f : Nat), hi - f ≤ n → Cut F f → ∀ x o, (x, o) ∈ rl F hi f ↔ (f ≤ x ∧ o ≤ 9 ∧ x % 2 ^ o = 0 ∧ Rn F o (x / 2 ^ o)) := by
  intro n
  induction n with
  | zero =>
    intro f hn hc x o
    rw [rl_end (by omega)]
    constructor
    · intro h; cases h
    · rintro ⟨h1, h2, h3, h4⟩
      have := dom x (h4.1 x rfl)
      omega
  | succ n ih =>
    intro f hn hc x o
    by_cases c : f < hi
    · cases hF : F f
      · rw [rl_off c hF, ih (f + 1) (by omega) (cut_off hF)]
        constructor
        · rintro ⟨h1, h2⟩; exact ⟨by omega, h2⟩
        · rintro ⟨h1, h2, h3, h4⟩
          refine ⟨?_, h2, h3, h4⟩
          by_cases e : x = f
          · subst e; have := h4.1 x rfl; rw [hF] at this; cases this
          · omega
      · obtain ⟨o1, o2⟩ := ord_spec hF
        have hp := Nat.two_pow_pos (ordF F f)
        have hs := hc.start o1 o2
        rw [rl_on c hF, List.mem_cons, ih _ (by omega) (hc.on o1 o2)]
        constructor
        · rintro (h | ⟨h1, h2⟩)
          · cases h; exact ⟨Nat.le_refl _, o1, mod_of hs, o2⟩
          · exact ⟨by omega, h2⟩
        · rintro ⟨h1, h2, h3, h4⟩
          by_cases e : x < f + 2 ^ ordF F f
          · left
            have hb : x / 2 ^ ordF F f = f / 2 ^ ordF F f := (blk_iff ..).2 ⟨by omega, by omega⟩
            have eo : o = ordF F f := run_one h2 o1 h4 (by rw [hb]; exact o2)
            subst eo
            have : x / 2 ^ ordF F f * 2 ^ ordF F f = x := Nat.div_mul_cancel (Nat.dvd_of_mod_eq_zero h3)
            rw [hb, hs] at this
            rw [this]
          · exact .inr ⟨by omega, h2, h3, h4⟩
    · rw [rl_end (by omega)]
      constructor
      · intro h; cases h
      · rintro ⟨h1, h2, h3, h4⟩
        have := dom x (h4.1 x rfl)
        omega
/-- Rising, and apart. -/
theorem rl_rise {F : Nat → Bool} {hi : Nat} : ∀ (n f : Nat), hi - f ≤ n → (∀ x ∈ rl F hi f, f ≤ x.1) ∧ (rl F hi f).Pairwise (fun x y => x.1 + 2 ^ x.2 ≤ y.1) := by
  intro n
  induction n with
  | zero => intro f hn; rw [rl_end (by omega)]; exact ⟨fun x hx => (by cases hx), .nil⟩
  | succ n ih =>
    intro f hn
    by_cases c : f < hi
    · have hp := Nat.two_pow_pos (ordF F f)
      cases hF : F f
      · rw [rl_off c hF]
        obtain ⟨h1, h2⟩ := ih (f + 1) (by omega)
        exact ⟨fun x hx => by have := h1 x hx; omega, h2⟩
      · rw [rl_on c hF]
        obtain ⟨h1, h2⟩ := ih (f + 2 ^ ordF F f) (by omega)
        refine ⟨fun x hx => ?_, List.pairwise_cons.2 ⟨fun y hy => h1 y hy, h2⟩⟩
        rcases List.mem_cons.1 hx with e | e
        · subst e; exact Nat.le_refl _
        · have := h1 x e; omega
    · rw [rl_end (by omega)]; exact ⟨fun x hx => (by cases hx), .nil⟩
/-- The sum of the runs. -/
def sumR : List (Nat × Nat) → Nat
  | [] => 0
  | x :: r => 2 ^ x.2 + sumR r
theorem cnt_step {F : Nat → Bool} {a b : Nat} (hab : a ≤ b) (h : ∀ k, a ≤ k → k < b → F k = true) : cnt F b = cnt F a + (b - a) := by
  obtain ⟨d, rfl⟩ : ∃ d, b = a + d := ⟨b - a, by omega⟩
  induction d with
  | zero => simp
  | succ d ih =>
    have := ih (by omega) (fun k h1 h2 => h k h1 (by omega))
    rw [show a + (d + 1) = (a + d) + 1 by omega]
    show cnt F (a + d) + (if F (a + d) then 1 else 0) = _
    rw [this, if_pos (h (a + d) (by omega) (by omega))]
    omega
theorem rl_sum {F : Nat → Bool} {hi : Nat} (dom : ∀ k, F k = true → k < hi) : ∀ (n f : Nat), hi - f ≤ n → f ≤ hi → Cut F f → sumR (rl F hi f) + cnt F f = cnt F hi := by
  intro n
  induction n with
  | zero => intro f hn hf hc; rw [rl_end (by omega), show f = hi by omega]; simp [sumR]
  | succ n ih =>
    intro f hn hf hc
    by_cases c : f < hi
    · cases hF : F f
      · rw [rl_off c hF, ← ih (f + 1) (by omega) (by omega) (cut_off hF)]
        conv => rhs; unfold cnt
        rw [hF]; simp
      · obtain ⟨o1, o2⟩ := ord_spec hF
        have hp := Nat.two_pow_pos (ordF F f)
        have hs := hc.start o1 o2
        have hall : ∀ k, f ≤ k → k < f + 2 ^ ordF F f → F k = true := fun k h1 h2 => o2.1 k ((blk_iff ..).2 ⟨by omega, by omega⟩)
        have hle : f + 2 ^ ordF F f ≤ hi := by
          have := dom _ (hall (f + 2 ^ ordF F f - 1) (by omega) (by omega))
          omega
        rw [rl_on c hF, ← ih (f + 2 ^ ordF F f) (by omega) hle (hc.on o1 o2), cnt_step (a := f) (b := f + 2 ^ ordF F f) (by omega) hall]
        simp only [sumR]
        omega
    · rw [rl_end (by omega), show f = hi by omega]; simp [sumR]

end Go.Proofs.YtcankhnnikhblaaGreatDoor
