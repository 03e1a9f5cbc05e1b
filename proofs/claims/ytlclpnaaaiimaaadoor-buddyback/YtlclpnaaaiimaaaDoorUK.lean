/- BuddyBack: what was taken and is given. -/
import Derived.Test.YtlclpnaaaiimaaaDoorUJ
namespace Go.Proofs.YtlclpnaaaiimaaaDoor
open Go.RowKit

/-- Is the frame k in the run t? -/
def inB (t : Nat × Nat) (k : Nat) : Bool := decide (t.1 ≤ k ∧ k < t.1 + 2 ^ t.2)
theorem inB_iff (t : Nat × Nat) (k : Nat) : inB t k = true ↔ t.1 ≤ k ∧ k < t.1 + 2 ^ t.2 := by simp [inB]
/-- The runs of Q were taken out of lo to hi - 1; those of which G holds are given again. -/
structure TG (lo hi : Nat) (Q : List (Nat × Nat)) (G : Nat → Bool) (F : Nat → Bool) : Prop where
  free : ∀ k, F k = (ivl lo hi k && !(List.range Q.length).any (fun i => !G i && inB (Q.getD i (0, 0)) k))
  run : ∀ i, i < Q.length → (Q.getD i (0, 0)).2 ≤ 9 ∧ (Q.getD i (0, 0)).1 % 2 ^ (Q.getD i (0, 0)).2 = 0 ∧ lo ≤ (Q.getD i (0, 0)).1 ∧ (Q.getD i (0, 0)).1 + 2 ^ (Q.getD i (0, 0)).2 ≤ hi
  apart : ∀ i j, i < Q.length → j < Q.length → i ≠ j → ∀ k, inB (Q.getD i (0, 0)) k = true → inB (Q.getD j (0, 0)) k = false
theorem TG.start (lo hi : Nat) : TG lo hi [] (fun _ => false) (ivl lo hi) := ⟨fun k => by simp, fun i hi => by simp at hi, fun i j hi => by simp at hi⟩
theorem TG.mem {lo hi : Nat} {Q : List (Nat × Nat)} {G F : Nat → Bool} (h : TG lo hi Q G F) (k : Nat) : F k = true ↔ (lo ≤ k ∧ k < hi) ∧ ∀ i, i < Q.length → G i = false → inB (Q.getD i (0, 0)) k = false := by
  rw [h.free k, Bool.and_eq_true, ivl_iff, Bool.not_eq_true', List.any_eq_false]
  constructor
  · rintro ⟨h1, h2⟩
    refine ⟨h1, fun i hi hg => ?_⟩
    have := h2 i (List.mem_range.2 hi)
    rw [hg] at this
    simpa using this
  · rintro ⟨h1, h2⟩
    refine ⟨h1, fun i hi => ?_⟩
    cases hg : G i
    · rw [h2 i (List.mem_range.1 hi) hg]; decide
    · simp
theorem TG.like {lo hi : Nat} {Q : List (Nat × Nat)} {G F : Nat → Bool} (h1 : ∀ k, F k = true ↔ (lo ≤ k ∧ k < hi) ∧ ∀ i, i < Q.length → G i = false → inB (Q.getD i (0, 0)) k = false)
    (h2 : ∀ i, i < Q.length → (Q.getD i (0, 0)).2 ≤ 9 ∧ (Q.getD i (0, 0)).1 % 2 ^ (Q.getD i (0, 0)).2 = 0 ∧ lo ≤ (Q.getD i (0, 0)).1 ∧ (Q.getD i (0, 0)).1 + 2 ^ (Q.getD i (0, 0)).2 ≤ hi)
    (h3 : ∀ i j, i < Q.length → j < Q.length → i ≠ j → ∀ k, inB (Q.getD i (0, 0)) k = true → inB (Q.getD j (0, 0)) k = false) : TG lo hi Q G F := by
  refine ⟨fun k => ?_, h2, h3⟩
  apply Bool.eq_iff_iff.2
  rw [h1 k, Bool.and_eq_true, ivl_iff, Bool.not_eq_true', List.any_eq_false]
  constructor
  · rintro ⟨a, c⟩
    refine ⟨a, fun i hi => ?_⟩
    cases hg : G i
    · rw [c i (List.mem_range.1 hi) hg]; decide
    · simp
  · rintro ⟨a, c⟩
    refine ⟨a, fun i hi hg => ?_⟩
    have := c i (List.mem_range.2 hi)
    rw [hg] at this
    simpa using this
/-- A run more is taken. -/
theorem TG.take {lo hi f o : Nat} {Q : List (Nat × Nat)} {F F1 : Nat → Bool} (h : TG lo hi Q (fun _ => false) F) (ho : o ≤ 9) (hf : f % 2 ^ o = 0) (h1 : lo ≤ f) (h2 : f + 2 ^ o ≤ hi) (hA : ∀ k, f ≤ k → k < f + 2 ^ o → F k = true) (hF : ∀ k, F1 k = (F k && !decide (f ≤ k ∧ k < f + 2 ^ o))) :
    TG lo hi (Q ++ [(f, o)]) (fun _ => false) F1 := by
  have gl : ∀ i, i < Q.length → (Q ++ [(f, o)]).getD i (0, 0) = Q.getD i (0, 0) := fun i hi => by simp [List.getD, List.getElem?_append_left hi]
  have gr : (Q ++ [(f, o)]).getD Q.length (0, 0) = (f, o) := by simp [List.getD]
  have hlen : (Q ++ [(f, o)]).length = Q.length + 1 := by simp
  have key : ∀ i, i < Q.length → ∀ k, inB (Q.getD i (0, 0)) k = true → inB (f, o) k = false := fun i hi k hk => by
    cases hv : inB (f, o) k
    · rfl
    · have hv' := (inB_iff (f, o) k).1 hv
      have := ((h.mem k).1 (hA k hv'.1 hv'.2)).2 i hi rfl
      rw [hk] at this; cases this
  refine TG.like (fun k => ?_) (fun i hi => ?_) (fun i j hi hj hij k hk => ?_)
  · rw [hF k, Bool.and_eq_true, h.mem k, Bool.not_eq_true', decide_eq_false_iff_not]
    constructor
    · rintro ⟨⟨a, c⟩, d⟩
      refine ⟨a, fun i hi _ => ?_⟩
      rw [hlen] at hi
      by_cases e : i = Q.length
      · rw [e, gr]
        cases hv : inB (f, o) k
        · rfl
        · exact absurd ((inB_iff (f, o) k).1 hv) d
      · rw [gl i (by omega)]; exact c i (by omega) rfl
    · rintro ⟨a, c⟩
      refine ⟨⟨a, fun i hi _ => by rw [← gl i hi]; exact c i (by omega) rfl⟩, fun d => ?_⟩
      have := c Q.length (by omega) rfl
      rw [gr, (inB_iff (f, o) k).2 d] at this
      cases this
  · rw [hlen] at hi
    by_cases e : i = Q.length
    · rw [e, gr]; exact ⟨ho, hf, h1, h2⟩
    · rw [gl i (by omega)]; exact h.run i (by omega)
  · rw [hlen] at hi hj
    by_cases e : i = Q.length
    · rw [e, gr] at hk
      rw [gl j (by omega)]
      cases hv : inB (Q.getD j (0, 0)) k
      · rfl
      · rw [key j (by omega) k hv] at hk; cases hk
    · rw [gl i (by omega)] at hk
      by_cases e' : j = Q.length
      · rw [e', gr]; exact key i (by omega) k hk
      · rw [gl j (by omega)]; exact h.apart i j (by omega) (by omega) hij k hk
/-- A run that is given again, whole. -/
theorem TG.give {lo hi a : Nat} {Q : List (Nat × Nat)} {G F F1 : Nat → Bool} (h : TG lo hi Q G F) (ha : a < Q.length) (hF : ∀ k, F1 k = (F k || inB (Q.getD a (0, 0)) k)) : TG lo hi Q (fun i => G i || decide (i = a)) F1 := by
  refine TG.like (fun k => ?_) h.run h.apart
  rw [hF k, Bool.or_eq_true, h.mem k]
  obtain ⟨_, _, r3, r4⟩ := h.run a ha
  constructor
  · rintro (⟨c, d⟩ | c)
    · refine ⟨c, fun i hi hg => d i hi ?_⟩
      cases hgi : G i
      · rfl
      · rw [hgi] at hg; cases hg
    · have c' := (inB_iff _ k).1 c
      refine ⟨⟨by omega, by omega⟩, fun i hi hg => ?_⟩
      have hia : i ≠ a := fun e => by subst e; simp at hg
      exact h.apart a i ha hi (fun e => hia e.symm) k c
  · rintro ⟨c, d⟩
    by_cases e : inB (Q.getD a (0, 0)) k = true
    · exact .inr e
    · refine .inl ⟨c, fun i hi hg => ?_⟩
      by_cases hia : i = a
      · subst hia; simpa using e
      · exact d i hi (by rw [hg, decide_eq_false hia]; rfl)
/-- A run that is not given is taken all over. -/
theorem TG.off {lo hi a : Nat} {Q : List (Nat × Nat)} {G F : Nat → Bool} (h : TG lo hi Q G F) (ha : a < Q.length) (hg : G a = false) : ∀ k, inB (Q.getD a (0, 0)) k = true → F k = false := fun k hk => by
  cases hv : F k
  · rfl
  · have := ((h.mem k).1 hv).2 a ha hg
    rw [hk] at this; cases this
/-- All are given: what was free at first is free. -/
theorem TG.all {lo hi : Nat} {Q : List (Nat × Nat)} {G F : Nat → Bool} (h : TG lo hi Q G F) (hg : ∀ i, i < Q.length → G i = true) : F = ivl lo hi := by
  funext k
  apply Bool.eq_iff_iff.2
  rw [h.mem k, ivl_iff]
  exact ⟨fun z => z.1, fun z => ⟨z, fun i hi e => by rw [hg i hi] at e; cases e⟩⟩
end Go.Proofs.YtlclpnaaaiimaaaDoor
