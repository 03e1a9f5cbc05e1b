/- What a move makes, by cases. -/
import Derived.Test.YtjeahpekcbogeaaGA0
namespace Go.Proofs.Ytjeahpekcbogeaa
open Go.RowKit

/-- An entry that may be: a party just where there is one. -/
def VE (e : Int × Int) : Prop := ((e.1 = 0 ∨ e.1 = 1 ∨ e.1 = 2 ∨ e.1 = 6) ∧ e.2 = 0) ∨ ((e.1 = 3 ∨ e.1 = 4 ∨ e.1 = 5) ∧ e.2 ≠ 0)
theorem fit_yes {p : Int} (h : fitB p true = true) : 1 ≤ p ∧ p ≤ 255 := by
  unfold fitB at h
  rw [if_pos rfl, Bool.and_eq_true, decide_eq_true_eq, decide_eq_true_eq] at h
  exact h
theorem fit_no {p : Int} (h : fitB p false = true) : p = 0 := by
  unfold fitB at h
  rw [if_neg (by decide), decide_eq_true_eq] at h
  exact h
theorem movN_ok {s q f p : Int} {o g : Bool} (h : movN s q f o g p = 0) : fitB p (o || g) = true ∧ s = f ∧ (o = true → q = p) := by
  unfold movN at h
  by_cases h1 : fitB p (o || g) = false
  · rw [if_pos h1] at h; omega
  · rw [if_neg h1] at h
    by_cases h2 : s ≠ f
    · rw [if_pos h2] at h; omega
    · rw [if_neg h2] at h
      by_cases h3 : o = true ∧ q ≠ p
      · rw [if_pos h3] at h; omega
      · exact ⟨by simpa using h1, by omega, fun ho => Decidable.byContradiction fun e => h3 ⟨ho, e⟩⟩
theorem relN_ok {s q p : Int} (h : relN s q p = 0) : s ≠ 0 ∧ s ≠ 3 ∧ fitB p (decide (s = 4) || decide (s = 5)) = true ∧ q = p := by
  unfold relN at h
  by_cases h1 : s = 0 ∨ s = 3
  · rw [if_pos h1] at h; omega
  · rw [if_neg h1] at h
    by_cases h2 : fitB p (decide (s = 4) || decide (s = 5)) = false
    · rw [if_pos h2] at h; omega
    · rw [if_neg h2] at h
      by_cases h3 : q ≠ p
      · rw [if_pos h3] at h; omega
      · exact ⟨by omega, by omega, by simpa using h2, by omega⟩
/-- The move that there is, of an entry that may be. -/
def OC (s q s2 q2 p : Int) : Prop := (s = 0 ∧ q = 0 ∧ s2 = 1 ∧ q2 = 0) ∨ (s = 0 ∧ q = 0 ∧ s2 = 2 ∧ q2 = 0) ∨ (s = 0 ∧ q = 0 ∧ s2 = 4 ∧ q2 = p ∧ p ≠ 0) ∨ (s = 2 ∧ q = 0 ∧ s2 = 3 ∧ q2 = p ∧ p ≠ 0) ∨ (s = 3 ∧ q = p ∧ s2 = 2 ∧ q2 = 0 ∧ p ≠ 0) ∨ (s = 4 ∧ q = p ∧ s2 = 5 ∧ q2 = p ∧ p ≠ 0) ∨ (s = 5 ∧ q = p ∧ s2 = 4 ∧ q2 = p ∧ p ≠ 0) ∨ (s = 4 ∧ q = p ∧ s2 = 6 ∧ q2 = 0 ∧ p ≠ 0) ∨ (s = 6 ∧ q = 0 ∧ s2 = 4 ∧ q2 = p ∧ p ≠ 0) ∨ (s = 1 ∧ q = 0 ∧ s2 = 0 ∧ q2 = 0) ∨ (s = 2 ∧ q = 0 ∧ s2 = 0 ∧ q2 = 0) ∨ (s = 6 ∧ q = 0 ∧ s2 = 0 ∧ q2 = 0) ∨ (s = 4 ∧ q = p ∧ s2 = 0 ∧ q2 = 0 ∧ p ≠ 0) ∨ (s = 5 ∧ q = p ∧ s2 = 0 ∧ q2 = 0 ∧ p ≠ 0)
theorem oc_of {N : Nat} {s q x a p : Int} (hv : VE (s, q)) (h : mayN N (s, q) x a p = 0) : OC s q (aftN a p).1 (aftN a p).2 p := by
  obtain ⟨h0, h1, h2, h3⟩ := mayN_ok h
  unfold VE at hv
  simp only at hv
  unfold OC
  have e : a = 1 ∨ a = 2 ∨ a = 3 ∨ a = 4 ∨ a = 5 ∨ a = 6 ∨ a = 7 ∨ a = 8 ∨ a = 9 ∨ a = 10 := by omega
  rcases e with rfl | rfl | rfl | rfl | rfl | rfl | rfl | rfl | rfl | rfl
  · have h' := (may_mov h0 h1 s q p 1 (by omega) (by omega) (by omega)).symm.trans h
    obtain ⟨r1, r2, r3⟩ := movN_ok h'
    have r4 := fit_no r1
    have r5 : s = 0 := r2
    exact .inl (⟨by omega, by omega, rfl, rfl⟩)
  · have h' := (may_mov h0 h1 s q p 2 (by omega) (by omega) (by omega)).symm.trans h
    obtain ⟨r1, r2, r3⟩ := movN_ok h'
    have r4 := fit_no r1
    have r5 : s = 0 := r2
    exact .inr (.inl (⟨by omega, by omega, rfl, rfl⟩))
  · have h' := (may_mov h0 h1 s q p 3 (by omega) (by omega) (by omega)).symm.trans h
    obtain ⟨r1, r2, r3⟩ := movN_ok h'
    have r4 := fit_yes r1
    have r5 : s = 0 := r2
    exact .inr (.inr (.inl (⟨by omega, by omega, rfl, rfl, by omega⟩)))
  · have h' := (may_mov h0 h1 s q p 4 (by omega) (by omega) (by omega)).symm.trans h
    obtain ⟨r1, r2, r3⟩ := movN_ok h'
    have r4 := fit_yes r1
    have r5 : s = 2 := r2
    exact .inr (.inr (.inr (.inl (⟨by omega, by omega, rfl, rfl, by omega⟩))))
  · have h' := (may_mov h0 h1 s q p 5 (by omega) (by omega) (by omega)).symm.trans h
    obtain ⟨r1, r2, r3⟩ := movN_ok h'
    have r4 := fit_yes r1
    have r5 : s = 3 := r2
    have r6 := r3 rfl
    exact .inr (.inr (.inr (.inr (.inl (⟨by omega, by omega, rfl, rfl, by omega⟩)))))
  · have h' := (may_mov h0 h1 s q p 6 (by omega) (by omega) (by omega)).symm.trans h
    obtain ⟨r1, r2, r3⟩ := movN_ok h'
    have r4 := fit_yes r1
    have r5 : s = 4 := r2
    have r6 := r3 rfl
    exact .inr (.inr (.inr (.inr (.inr (.inl (⟨by omega, by omega, rfl, rfl, by omega⟩))))))
  · have h' := (may_mov h0 h1 s q p 7 (by omega) (by omega) (by omega)).symm.trans h
    obtain ⟨r1, r2, r3⟩ := movN_ok h'
    have r4 := fit_yes r1
    have r5 : s = 5 := r2
    have r6 := r3 rfl
    exact .inr (.inr (.inr (.inr (.inr (.inr (.inl (⟨by omega, by omega, rfl, rfl, by omega⟩)))))))
  · have h' := (may_mov h0 h1 s q p 8 (by omega) (by omega) (by omega)).symm.trans h
    obtain ⟨r1, r2, r3⟩ := movN_ok h'
    have r4 := fit_yes r1
    have r5 : s = 4 := r2
    have r6 := r3 rfl
    exact .inr (.inr (.inr (.inr (.inr (.inr (.inr (.inl (⟨by omega, by omega, rfl, rfl, by omega⟩))))))))
  · rw [may_rel h0 h1] at h
    obtain ⟨r1, r2, r3, r4⟩ := relN_ok h
    by_cases e : s = 4 ∨ s = 5
    · have e' : (decide (s = 4) || decide (s = 5)) = true := by simpa using e
      rw [e'] at r3
      have := fit_yes r3
      rcases e with e | e
      · exact .inr (.inr (.inr (.inr (.inr (.inr (.inr (.inr (.inr (.inr (.inr (.inr (.inl (⟨by omega, by omega, rfl, rfl, by omega⟩)))))))))))))
      · exact .inr (.inr (.inr (.inr (.inr (.inr (.inr (.inr (.inr (.inr (.inr (.inr (.inr (⟨by omega, by omega, rfl, rfl, by omega⟩)))))))))))))
    · have e' : (decide (s = 4) || decide (s = 5)) = false := by simpa using e
      rw [e'] at r3
      have := fit_no r3
      have e2 : s = 1 ∨ s = 2 ∨ s = 6 := by omega
      rcases e2 with e2 | e2 | e2
      · exact .inr (.inr (.inr (.inr (.inr (.inr (.inr (.inr (.inr (.inl (⟨by omega, by omega, rfl, rfl⟩))))))))))
      · exact .inr (.inr (.inr (.inr (.inr (.inr (.inr (.inr (.inr (.inr (.inl (⟨by omega, by omega, rfl, rfl⟩)))))))))))
      · exact .inr (.inr (.inr (.inr (.inr (.inr (.inr (.inr (.inr (.inr (.inr (.inl (⟨by omega, by omega, rfl, rfl⟩))))))))))))
  · have h' := (may_mov h0 h1 s q p 10 (by omega) (by omega) (by omega)).symm.trans h
    obtain ⟨r1, r2, r3⟩ := movN_ok h'
    have r4 := fit_yes r1
    have r5 : s = 6 := r2
    exact .inr (.inr (.inr (.inr (.inr (.inr (.inr (.inr (.inl (⟨by omega, by omega, rfl, rfl, by omega⟩)))))))))
/-- All entries of E may be. -/
def VA (E : Int → Int × Int) : Prop := ∀ x, VE (E x)
theorem va_no : VA noE := fun _ => .inl ⟨.inl rfl, rfl⟩
theorem oc_ve {s q s2 q2 p : Int} (h : OC s q s2 q2 p) : VE (s2, q2) := by
  unfold OC at h
  unfold VE
  rcases h with h | h | h | h | h | h | h | h | h | h | h | h | h | h <;> (simp only; omega)
theorem doE_va {N : Nat} {E : Int → Int × Int} (h : VA E) (x a p : Int) : VA (doE N E x a p) := by
  intro y
  unfold doE
  by_cases e : mayN N (E x) x a p = 0
  · rw [if_pos e]
    unfold putE
    by_cases ey : y = x
    · rw [if_pos ey]; exact oc_ve (oc_of (h x) e)
    · rw [if_neg ey]; exact h y
  · rw [if_neg e]; exact h y
theorem doE_at (N : Nat) (E : Int → Int × Int) (x a p : Int) : doE N E x a p x = if mayN N (E x) x a p = 0 then aftN a p else E x := by
  unfold doE
  by_cases e : mayN N (E x) x a p = 0
  · rw [if_pos e, if_pos e, putE_same]
  · rw [if_neg e, if_neg e]
theorem doE_other (N : Nat) (E : Int → Int × Int) {x y : Int} (a p : Int) (h : y ≠ x) : doE N E x a p y = E y := by
  unfold doE
  by_cases e : mayN N (E x) x a p = 0
  · rw [if_pos e, putE_other _ _ h]
  · rw [if_neg e]
theorem oc_ne {s q s2 q2 p : Int} (h : OC s q s2 q2 p) : s2 ≠ s := by
  unfold OC at h
  rcases h with h | h | h | h | h | h | h | h | h | h | h | h | h | h <;> omega

end Go.Proofs.Ytjeahpekcbogeaa
