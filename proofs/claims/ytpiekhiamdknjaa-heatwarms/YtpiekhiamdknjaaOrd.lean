/- An order of places: by a test of what lies there, of like ones by place. The insertion sort keeps it. No program is named. -/
import Derived.Sort.LotA
namespace Go.Proofs.Ytpiekhiamdknjaa
open Go.Sort

/-- x ahead of y: less, or neither is less and its place is less. -/
def T (lt : Nat → Nat → Bool) (x y : Nat) : Bool := lt x y || (!lt y x && decide (x < y))
theorem T_of_gt {lt : Nat → Nat → Bool} {x y : Nat} (h : y ≤ x) : T lt x y = lt x y := by
  unfold T; simp [show ¬ x < y by omega]
theorem T_true {lt : Nat → Nat → Bool} {x y : Nat} : T lt x y = true ↔ (lt x y = true ∨ (lt y x = false ∧ x < y)) := by
  unfold T; simp

theorem SWO.asym {α : Type} [Inhabited α] {lt : α → α → Bool} (h : SWO lt) {x y : α} (hxy : lt x y = true) : lt y x = false := by
  cases e : lt y x with
  | false => rfl
  | true => have := h.trans x y x hxy e; rw [h.irrefl] at this; exact this.symm

variable {lt : Nat → Nat → Bool}
theorem T_irrefl (h : SWO lt) (x : Nat) : T lt x x = false := by unfold T; simp [h.irrefl]
theorem T_trans (h : SWO lt) (x y z : Nat) (h1 : T lt x y = true) (h2 : T lt y z = true) : T lt x z = true := by
  rw [T_true] at *
  rcases h1 with h1 | ⟨h1, i1⟩ <;> rcases h2 with h2 | ⟨h2, i2⟩
  · exact .inl (h.trans x y z h1 h2)
  · refine .inl ?_
    cases e : lt x z with
    | true => rfl
    | false => have := h.ntrans x z y e h2; rw [h1] at this; exact this.symm
  · refine .inl ?_
    cases e : lt x z with
    | true => rfl
    | false => have := h.ntrans y x z h1 e; rw [h2] at this; exact this.symm
  · exact .inr ⟨h.ntrans z y x h2 h1, by omega⟩
theorem T_total {x y : Nat} (h1 : T lt x y = false) : x = y ∨ T lt y x = true := by
  cases e1 : lt x y with
  | true => exfalso; have := T_true.2 (Or.inl e1); rw [h1] at this; cases this
  | false =>
    rcases Nat.lt_trichotomy x y with h2 | h2 | h2
    · cases e2 : lt y x with
      | true => exact .inr (T_true.2 (.inl e2))
      | false => exfalso; have := T_true.2 (Or.inr ⟨e2, h2⟩); rw [h1] at this; cases this
    · exact .inl h2
    · exact .inr (T_true.2 (.inr ⟨e1, h2⟩))
theorem T_swo (h : SWO lt) : SWO (T lt) := {
  irrefl := T_irrefl h
  trans := T_trans h
  ntrans := fun x y z h1 h2 => by
    cases e : T lt x z with
    | false => rfl
    | true =>
      exfalso
      rcases T_total h1 with rfl | k1
      · rw [e] at h2; cases h2
      · rcases T_total h2 with rfl | k2
        · rw [e] at h1; cases h1
        · have := T_trans h _ _ _ (T_trans h _ _ _ k2 k1) e
          rw [T_irrefl h] at this; cases this }
theorem T_eq (x y : Nat) (h1 : T lt x y = false) (h2 : T lt y x = false) : x = y := by
  rcases T_total h1 with e | e
  · exact e
  · rw [h2] at e; cases e

/-! ### The insertion sort -/
theorem insInner_perm (f : Nat → Nat → Bool) (a i : Nat) : ∀ (j : Nat) (d : Array Nat), j ≤ i → i < d.size → PermIn a (i + 1) d (insInner f a j d)
  | 0, d, _, _ => by unfold insInner; exact permIn_refl d _ _
  | j + 1, d, hji, hs => by
    unfold insInner
    split
    · rename_i hc
      simp only [Bool.and_eq_true, decide_eq_true_eq] at hc
      exact permIn_trans _ _ _ _ _ (swp_permIn d a (i + 1) (j + 1) j (by omega) (by omega) (by omega) (by omega) (by omega)) (insInner_perm f a i j _ (by omega) (by rw [swp_size]; exact hs))
    · exact permIn_refl d _ _

theorem insInner_eq (a : Nat) : ∀ (j : Nat) (d : Array Nat), (∀ p, a ≤ p → p < j → d[p]! < d[j]!) → j < d.size → insInner lt a j d = insInner (T lt) a j d
  | 0, d, _, _ => by unfold insInner; rfl
  | j + 1, d, h, hs => by
    unfold insInner
    by_cases hj : j + 1 > a
    · have hl : T lt d[j + 1]! d[j]! = lt d[j + 1]! d[j]! := T_of_gt (Nat.le_of_lt (h j (by omega) (by omega)))
      rw [hl, insInner_eq a j (swp d (j + 1) j) (fun p h1 h2 => ?_) (by rw [swp_size]; omega)]
      rw [swp_get d (by omega) (by omega) p, swp_get d (by omega) (by omega) j]
      have := h p h1 (by omega)
      simp [show p ≠ j by omega, show p ≠ j + 1 by omega]
      exact this
    · simp [hj]

theorem insOuter_on (f : Nat → Nat → Bool) (a b i : Nat) (d : Array Nat) (h : i < b) : insOuter f a b i d = insOuter f a b (i + 1) (insInner f a i d) := by
  conv => lhs; rw [insOuter, if_pos h]
theorem insOuter_eq (a b : Nat) : ∀ (n i : Nat) (d : Array Nat), b - i = n → b ≤ d.size → (∀ p q, a ≤ p → p < q → q < b → i ≤ q → d[p]! < d[q]!) → insOuter lt a b i d = insOuter (T lt) a b i d
  | 0, i, d, hn, _, _ => by rw [insOuter, if_neg (by omega), insOuter, if_neg (by omega)]
  | n + 1, i, d, hn, hs, h => by
    rw [insOuter_on lt a b i d (by omega), insOuter_on (T lt) a b i d (by omega), insInner_eq a i d (fun p h1 h2 => h p i h1 h2 (by omega) (Nat.le_refl _)) (by omega)]
    have hP := insInner_perm (T lt) a i i d (Nat.le_refl _) (by omega)
    refine insOuter_eq a b n (i + 1) _ (by omega) (by rw [hP.1]; exact hs) (fun p q h1 h2 h3 h4 => ?_)
    rw [hP.2.1 q (by omega)]
    by_cases hp : p < i + 1
    · exact permIn_all _ _ _ _ (fun x => x < d[q]!) (by omega) hP (fun r k1 k2 => h r q k1 (by omega) h3 (by omega)) p h1 hp
    · rw [hP.2.1 p (by omega)]
      exact h p q h1 h2 h3 (by omega)

theorem insertionSort_stable (hS : SWO lt) (d : Array Nat) (a b : Nat) (hab : a ≤ b) (hb : b ≤ d.size) (h : ∀ p q, a ≤ p → p < q → q < b → d[p]! < d[q]!) :
    PermIn a b d (insertionSort lt d a b) ∧ SortedIn (T lt) a b (insertionSort lt d a b) := by
  have e : insertionSort lt d a b = insertionSort (T lt) d a b := insOuter_eq a b _ _ d rfl hb (fun p q h1 h2 h3 _ => h p q h1 h2 h3)
  rw [e]
  exact insertionSort_holds (T_swo hS) d a b hab hb

end Go.Proofs.Ytpiekhiamdknjaa
