/- The document's memory: a list of bytes that are not 0. -/
import Derived.Test.YtjnkmmfppkpgbaaDoorUS
import Derived.Test.YtjnkmmfppkpgbaaDoorJP
namespace Go.Proofs.YtjnkmmfppkpgbaaDoor
open Go.RowKit Go.Maps
set_option maxRecDepth 10000

/-- A byte's address and the byte. -/
def encP : Nat × Nat → List Value := fun p => [.int .u64 (p.1 : Nat), .int .u8 (p.2 : Nat)]
theorem encP_enc : Enc encP 2 := ⟨fun _ => rfl, fun x u hu => by simp [encP] at hu; rcases hu with rfl | rfl <;> rfl, by decide⟩

/-- The byte at a, or 0. -/
def lk : List (Nat × Nat) → Nat → Nat
  | [], _ => 0
  | p :: r, a => if p.1 = a then p.2 else lk r a
theorem lk_cons (p : Nat × Nat) (r : List (Nat × Nat)) (a : Nat) : lk (p :: r) a = if p.1 = a then p.2 else lk r a := rfl
/-- Where a stands first. -/
def ix : List (Nat × Nat) → Nat → Nat
  | [], _ => 0
  | p :: r, a => if p.1 = a then 0 else ix r a + 1
theorem ix_le : ∀ (L : List (Nat × Nat)) (a : Nat), ix L a ≤ L.length
  | [], _ => Nat.le_refl _
  | p :: r, a => by unfold ix; split; omega; have := ix_le r a; simp; omega
theorem ix_miss : ∀ (L : List (Nat × Nat)) (a i : Nat) (p : Nat × Nat), L[i]? = some p → i < ix L a → p.1 ≠ a
  | q :: r, a, 0, p, h, hi => by
    simp at h; subst h
    unfold ix at hi
    split at hi
    · omega
    · assumption
  | q :: r, a, i + 1, p, h, hi => by
    unfold ix at hi
    split at hi
    · omega
    · exact ix_miss r a i p (by simpa using h) (by omega)
theorem ix_hit : ∀ (L : List (Nat × Nat)) (a : Nat), ix L a < L.length → ∃ p, L[ix L a]? = some p ∧ p.1 = a ∧ p.2 = lk L a
  | [], _, h => by simp [ix] at h
  | q :: r, a, h => by
    unfold ix at h ⊢
    unfold lk
    by_cases e : q.1 = a
    · rw [if_pos e, if_pos e]; exact ⟨q, by simp, e, rfl⟩
    · rw [if_neg e] at h
      rw [if_neg e, if_neg e]
      obtain ⟨p, h1, h2, h3⟩ := ix_hit r a (by simp at h; omega)
      exact ⟨p, by simpa using h1, h2, h3⟩
theorem lk_none : ∀ (L : List (Nat × Nat)) (a : Nat), ix L a = L.length → lk L a = 0
  | [], _, _ => rfl
  | q :: r, a, h => by
    unfold ix at h
    unfold lk
    by_cases e : q.1 = a
    · rw [if_pos e] at h; simp at h
    · rw [if_neg e] at h
      rw [if_neg e]
      exact lk_none r a (by simp at h; omega)
theorem lk_append : ∀ (L M : List (Nat × Nat)) (a : Nat), (∀ p ∈ L, p.1 = a → p.2 ≠ 0) → lk (L ++ M) a = if lk L a = 0 then lk M a else lk L a
  | [], M, a, _ => by simp [lk]
  | q :: r, M, a, h => by
    rw [List.cons_append, lk_cons, lk_cons]
    by_cases e : q.1 = a
    · rw [if_pos e, if_pos e, if_neg (h q (by simp) e)]
    · rw [if_neg e, if_neg e]
      exact lk_append r M a (fun p hp => h p (by simp [hp]))
/-- no address twice, no byte that is 0, all below E. -/
structure Tidy (E : Nat) (L : List (Nat × Nat)) : Prop where
  once : L.Pairwise (fun p q => p.1 ≠ q.1)
  some : ∀ p ∈ L, p.1 < E ∧ p.2 ≠ 0 ∧ p.2 < 256
theorem lk_mem {E : Nat} : ∀ {L : List (Nat × Nat)}, Tidy E L → ∀ p ∈ L, lk L p.1 = p.2
  | q :: r, h, p, hp => by
    unfold lk
    rcases List.mem_cons.1 hp with rfl | hp'
    · rw [if_pos rfl]
    · obtain ⟨h1, h2⟩ := List.pairwise_cons.1 h.once
      rw [if_neg (h1 p hp')]
      exact lk_mem ⟨h2, fun x hx => h.some x (by simp [hx])⟩ p hp'
theorem lk_lt {E : Nat} {L : List (Nat × Nat)} (h : Tidy E L) (a : Nat) : lk L a < 256 := by
  by_cases c : ix L a < L.length
  · obtain ⟨p, h1, _, h3⟩ := ix_hit L a c
    rw [← h3]
    exact (h.some p (List.mem_of_getElem? h1)).2.2
  · rw [lk_none L a (by have := ix_le L a; omega)]; omega
theorem lk_zero_iff {E : Nat} {L : List (Nat × Nat)} (h : Tidy E L) (a : Nat) : lk L a = 0 ↔ ∀ p ∈ L, p.1 ≠ a := by
  constructor
  · intro h0 p hp e
    have := lk_mem h p hp
    rw [e, h0] at this
    exact (h.some p hp).2.1 this.symm
  · intro h0
    refine lk_none L a ?_
    have h1 := ix_le L a
    by_cases c : ix L a < L.length
    · obtain ⟨p, h2, h3, _⟩ := ix_hit L a c
      exact absurd h3 (h0 p (List.mem_of_getElem? h2))
    · omega
theorem tidy_len {E : Nat} {L : List (Nat × Nat)} (h : Tidy E L) : L.length ≤ E := by
  have := tally E (L.map fun p => (p.1 : Int)) (by
    rw [List.pairwise_map]
    exact h.once.imp (fun {a b} hab e => hab (by omega))) (fun x hx => by
    obtain ⟨p, hp, rfl⟩ := List.mem_map.1 hx
    have := (h.some p hp).1
    omega)
  simpa using this

/-- What set leaves. -/
def setL (L : List (Nat × Nat)) (a b : Nat) : List (Nat × Nat) :=
  if ix L a < L.length then (if b = 0 then L.eraseIdx (ix L a) else L.set (ix L a) (a, b)) else (if b = 0 then L else L ++ [(a, b)])
theorem setL_tidy {E : Nat} {L : List (Nat × Nat)} (h : Tidy E L) (a b : Nat) (ha : a < E) (hb : b < 256) : Tidy E (setL L a b) := by
  unfold setL
  by_cases c : ix L a < L.length
  · rw [if_pos c]
    by_cases e : b = 0
    · rw [if_pos e]
      exact ⟨h.once.sublist (List.eraseIdx_sublist _ _), fun p hp => h.some p ((List.eraseIdx_sublist _ _).mem hp)⟩
    · rw [if_neg e]
      obtain ⟨p, h1, h2, _⟩ := ix_hit L a c
      refine ⟨?_, fun x hx => ?_⟩
      · have hm : (L.set (ix L a) (a, b)).map (·.1) = L.map (·.1) := by
          rw [List.map_set]
          apply List.ext_getElem?
          intro j
          rw [List.getElem?_set]
          by_cases ej : ix L a = j
          · subst ej
            rw [if_pos rfl, if_pos (by simpa using c), List.getElem?_map, h1, Option.map_some, h2]
          · rw [if_neg ej]
        have h0 := List.pairwise_map.2 h.once
        rw [← hm] at h0
        exact List.pairwise_map.1 h0
      · rcases List.mem_or_eq_of_mem_set hx with hx | rfl
        · exact h.some x hx
        · exact ⟨ha, e, hb⟩
  · rw [if_neg c]
    by_cases e : b = 0
    · rw [if_pos e]; exact h
    · rw [if_neg e]
      have hno : ∀ p ∈ L, p.1 ≠ a := (lk_zero_iff h a).1 (lk_none L a (by have := ix_le L a; omega))
      refine ⟨List.pairwise_append.2 ⟨h.once, by simp, fun p hp q hq => by simp at hq; subst hq; exact hno p hp⟩, fun x hx => ?_⟩
      rcases List.mem_append.1 hx with hx | hx
      · exact h.some x hx
      · simp at hx; subst hx; exact ⟨ha, e, hb⟩
theorem mem_setL {E : Nat} {L : List (Nat × Nat)} (h : Tidy E L) (a b : Nat) (p : Nat × Nat) : p ∈ setL L a b ↔ (p ∈ L ∧ p.1 ≠ a) ∨ (p = (a, b) ∧ b ≠ 0) := by
  unfold setL
  by_cases c : ix L a < L.length
  · rw [if_pos c]
    obtain ⟨q, h1, h2, _⟩ := ix_hit L a c
    have hq : ∀ x ∈ L, x.1 = a → x = q := fun x hx hxa => by
      have e1 := lk_mem h x hx
      have e2 := lk_mem h q (List.mem_of_getElem? h1)
      rw [hxa] at e1; rw [h2] at e2
      exact Prod.ext (hxa.trans h2.symm) (e1.symm.trans e2)
    have hother : ∀ j x, L[j]? = some x → j ≠ ix L a → x.1 ≠ a := fun j x hj hne hxa => by
      have hx := hq x (List.mem_of_getElem? hj) hxa
      subst hx
      have hp := List.pairwise_iff_getElem.1 h.once
      have lj := (List.getElem?_eq_some_iff.1 hj)
      have li := (List.getElem?_eq_some_iff.1 h1)
      obtain ⟨lj1, lj2⟩ := lj
      obtain ⟨li1, li2⟩ := li
      rcases Nat.lt_or_ge j (ix L a) with hh | hh
      · exact hp j (ix L a) lj1 li1 hh (by rw [lj2, li2])
      · exact hp (ix L a) j li1 lj1 (by omega) (by rw [lj2, li2])
    by_cases e : b = 0
    · rw [if_pos e, List.mem_eraseIdx_iff_getElem?]
      constructor
      · rintro ⟨j, hj, hp⟩
        exact .inl ⟨List.mem_of_getElem? hp, hother j p hp hj⟩
      · rintro (⟨hp, hne⟩ | ⟨_, h0⟩)
        · obtain ⟨j, hj⟩ := List.getElem?_of_mem hp
          exact ⟨j, fun ej => by subst ej; rw [h1] at hj; cases hj; exact hne h2, hj⟩
        · exact absurd e h0
    · rw [if_neg e, List.mem_iff_getElem?]
      constructor
      · rintro ⟨j, hj⟩
        rw [List.getElem?_set] at hj
        by_cases ej : ix L a = j
        · rw [if_pos ej, if_pos c] at hj
          cases hj
          exact .inr ⟨rfl, e⟩
        · rw [if_neg ej] at hj
          exact .inl ⟨List.mem_of_getElem? hj, hother j p hj (fun x => ej x.symm)⟩
      · rintro (⟨hp, hne⟩ | ⟨rfl, _⟩)
        · obtain ⟨j, hj⟩ := List.getElem?_of_mem hp
          refine ⟨j, ?_⟩
          rw [List.getElem?_set, if_neg (fun ej => by subst ej; rw [h1] at hj; cases hj; exact hne h2)]
          exact hj
        · exact ⟨ix L a, by rw [List.getElem?_set, if_pos rfl, if_pos c]⟩
  · rw [if_neg c]
    have hno : ∀ p ∈ L, p.1 ≠ a := (lk_zero_iff h a).1 (lk_none L a (by have := ix_le L a; omega))
    by_cases e : b = 0
    · rw [if_pos e]
      exact ⟨fun hp => .inl ⟨hp, hno p hp⟩, fun hp => hp.elim (·.1) (fun h => absurd e h.2)⟩
    · rw [if_neg e, List.mem_append]
      constructor
      · rintro (hp | hp)
        · exact .inl ⟨hp, hno p hp⟩
        · exact .inr ⟨by simpa using hp, e⟩
      · rintro (⟨hp, _⟩ | ⟨rfl, _⟩)
        · exact .inl hp
        · exact .inr (by simp)
theorem lk_of_mem {E : Nat} {L : List (Nat × Nat)} (h : Tidy E L) {a b : Nat} (hm : (a, b) ∈ L) : lk L a = b := lk_mem h (a, b) hm
theorem lk_setL {E : Nat} {L : List (Nat × Nat)} (h : Tidy E L) (a b a' : Nat) (ha : a < E) (hb : b < 256) : lk (setL L a b) a' = if a' = a then b else lk L a' := by
  have hT := setL_tidy h a b ha hb
  by_cases e : a' = a
  · subst e
    rw [if_pos rfl]
    by_cases e0 : b = 0
    · subst e0
      exact (lk_zero_iff hT a').2 (fun p hp => by
        rcases (mem_setL h a' 0 p).1 hp with h1 | h1
        · exact h1.2
        · exact absurd rfl h1.2)
    · exact lk_of_mem hT ((mem_setL h a' b _).2 (.inr ⟨rfl, e0⟩))
  · rw [if_neg e]
    by_cases c : lk L a' = 0
    · rw [c]
      exact (lk_zero_iff hT a').2 (fun p hp => by
        rcases (mem_setL h a b p).1 hp with h1 | h1
        · exact (lk_zero_iff h a').1 c p h1.1
        · rw [h1.1]; exact fun x => e x.symm)
    · have : (a', lk L a') ∈ L := by
        have hlt : ix L a' < L.length := by
          have := ix_le L a'
          by_cases hh : ix L a' < L.length
          · exact hh
          · exact absurd (lk_none L a' (by omega)) c
        obtain ⟨p, h1, h2, h3⟩ := ix_hit L a' hlt
        have : p = (a', lk L a') := Prod.ext h2 h3
        rw [← this]; exact List.mem_of_getElem? h1
      exact lk_of_mem hT ((mem_setL h a b _).2 (.inl ⟨this, e⟩))

end Go.Proofs.YtjnkmmfppkpgbaaDoor
