/- BuddyLeast: the first run of the least order that is great enough. -/
import Derived.Test.YtlclpnaaaiimaaaDoorUY
import Derived.Deep.DeepCutAuto
import Derived.Deep.CutBlock
namespace Go.Proofs.YtlclpnaaaiimaaaDoor
open Go.RowKit

/-- want and best behind the first k runs. -/
def bst (L : List (Nat × Nat)) (o : Nat) : Nat → Int × Int
  | 0 => (-1, 10)
  | k + 1 => match L[k]? with
    | some x => if o ≤ x.2 ∧ (x.2 : Int) < (bst L o k).2 then ((x.1 : Int), (x.2 : Int)) else bst L o k
    | none => bst L o k
theorem bst_succ {L : List (Nat × Nat)} {o k : Nat} {x : Nat × Nat} (h : L[k]? = some x) : bst L o (k + 1) = if o ≤ x.2 ∧ (x.2 : Int) < (bst L o k).2 then ((x.1 : Int), (x.2 : Int)) else bst L o k := by
  show (match L[k]? with | some x => if o ≤ x.2 ∧ (x.2 : Int) < (bst L o k).2 then ((x.1 : Int), (x.2 : Int)) else bst L o k | none => bst L o k) = _
  rw [h]
theorem bst_spec {L : List (Nat × Nat)} {o : Nat} (h9 : ∀ x ∈ L, x.2 ≤ 9) : ∀ k, k ≤ L.length →
    (bst L o k = (-1, 10) ∧ ∀ j x, j < k → L[j]? = some x → x.2 < o) ∨ (∃ j x, j < k ∧ L[j]? = some x ∧ bst L o k = ((x.1 : Int), (x.2 : Int)) ∧ o ≤ x.2 ∧ ∀ j' x', j' < k → L[j']? = some x' → o ≤ x'.2 → x.2 ≤ x'.2 ∧ (x'.2 = x.2 → j ≤ j'))
  | 0, _ => .inl ⟨rfl, fun j x hj => by omega⟩
  | k + 1, hk => by
    have ih := bst_spec h9 (o := o) k (by omega)
    have hx : L[k]? = some L[k] := List.getElem?_eq_getElem (by omega)
    have hx9 := h9 _ (List.mem_of_getElem? hx)
    rw [bst_succ hx]
    generalize L[k] = y at *
    rcases ih with ⟨e, hn⟩ | ⟨j, x, hj, hjx, e, ho, hl⟩
    · rw [e]
      by_cases c : o ≤ y.2
      · rw [if_pos ⟨c, by show (y.2 : Int) < 10; omega⟩]
        refine .inr ⟨k, y, by omega, hx, rfl, c, fun j' x' hj' hx' ho' => ?_⟩
        by_cases d : j' = k
        · subst d; rw [hx] at hx'; cases hx'; exact ⟨Nat.le_refl _, fun _ => Nat.le_refl _⟩
        · have := hn j' x' (by omega) hx'; omega
      · rw [if_neg (fun z => c z.1)]
        refine .inl ⟨rfl, fun j' x' hj' hx' => ?_⟩
        by_cases d : j' = k
        · subst d; rw [hx] at hx'; cases hx'; omega
        · exact hn j' x' (by omega) hx'
    · rw [e]
      by_cases c : o ≤ y.2 ∧ (y.2 : Int) < (x.2 : Int)
      · rw [if_pos c]
        refine .inr ⟨k, y, by omega, hx, rfl, c.1, fun j' x' hj' hx' ho' => ?_⟩
        by_cases d : j' = k
        · subst d; rw [hx] at hx'; cases hx'; exact ⟨Nat.le_refl _, fun _ => Nat.le_refl _⟩
        · have := hl j' x' (by omega) hx' ho'
          exact ⟨by omega, fun z => by omega⟩
      · rw [if_neg c]
        refine .inr ⟨j, x, by omega, hjx, rfl, ho, fun j' x' hj' hx' ho' => ?_⟩
        by_cases d : j' = k
        · subst d; rw [hx] at hx'; cases hx'; exact ⟨by omega, fun _ => by omega⟩
        · exact hl j' x' (by omega) hx' ho'
theorem bst_le {L : List (Nat × Nat)} {o : Nat} (h9 : ∀ x ∈ L, x.2 ≤ 9 ∧ x.1 ≤ 1048576) (k : Nat) (hk : k ≤ L.length) : -1 ≤ (bst L o k).1 ∧ (bst L o k).1 ≤ 1048576 ∧ 0 ≤ (bst L o k).2 ∧ (bst L o k).2 ≤ 10 := by
  rcases bst_spec (fun x hx => (h9 x hx).1) (o := o) k hk with ⟨e, _⟩ | ⟨j, x, _, hx, e, _⟩
  · rw [e]; exact ⟨by decide, by decide, by decide, by decide⟩
  · rw [e]
    have := h9 x (List.mem_of_getElem? hx)
    exact ⟨by show (-1 : Int) ≤ (x.1 : Int); omega, by show (x.1 : Int) ≤ _; omega, by show (0 : Int) ≤ (x.2 : Int); omega, by show (x.2 : Int) ≤ 10; omega⟩
/-- What is wanted is what is taken. -/
theorem bst_take {w : World} {U : Nat → Prop} {p lo hi o o' i : Nat} {F : Nat → Bool} (h : BF w U p lo hi F) (t : Tk F o o' i) : (bst (rl F hi lo) o (rl F hi lo).length).1 = ((i * 2 ^ o' : Nat) : Int) := by
  have hm := t.mem h
  obtain ⟨j0, hj0, e0⟩ := List.getElem_of_mem hm
  have x0 : (rl F hi lo)[j0]? = some (i * 2 ^ o', o') := by rw [List.getElem?_eq_getElem hj0, e0]
  rcases bst_spec (fun x hx => (h.ord x hx).1) (o := o) (rl F hi lo).length (Nat.le_refl _) with ⟨_, hn⟩ | ⟨j, x, hj, hx, e, ho, hl⟩
  · have := hn j0 _ hj0 x0
    have h2 : o' < o := this
    have := t.le
    omega
  · rw [e]
    obtain ⟨l1, l2⟩ := hl j0 _ hj0 x0 t.le
    have l1' : x.2 ≤ o' := l1
    obtain ⟨m1, m2, m3⟩ := (h.mem x.1 x.2).1 (List.mem_of_getElem? hx)
    have e2 : x.2 = o' := by
      by_cases c : x.2 < o'
      · exact absurd m3 (t.no x.2 ho c _)
      · omega
    have hle : i * 2 ^ o' ≤ x.1 := by
      rw [e2] at m3 m2
      have := Nat.div_mul_cancel (Nat.dvd_of_mod_eq_zero m2)
      rw [← this]
      refine Nat.mul_le_mul_right _ ?_
      by_cases c : x.1 / 2 ^ o' < i
      · exact absurd m3 (t.least _ c)
      · omega
    have hjj := l2 e2.symm
    show ((x.1 : Nat) : Int) = _
    by_cases c : j = j0
    · subst c
      rw [x0] at hx
      cases hx; rfl
    · have hp := (rl_rise (F := F) (hi := hi) (hi - lo) lo (Nat.le_refl _)).2
      have := List.pairwise_iff_getElem.1 hp j j0 hj hj0 (by omega)
      rw [e0, (List.getElem?_eq_some_iff.1 hx).2] at this
      have h3 : x.1 + 2 ^ x.2 ≤ i * 2 ^ o' := this
      have := Nat.two_pow_pos x.2
      generalize i * 2 ^ o' = q at *
      generalize 2 ^ x.2 = r at *
      omega
theorem bst_no {w : World} {U : Nat → Prop} {p lo hi o : Nat} {F : Nat → Bool} (h : BF w U p lo hi F) (t : ∀ a, o ≤ a → a ≤ 9 → ∀ j, ¬ Rn F a j) : (bst (rl F hi lo) o (rl F hi lo).length).1 = -1 := by
  rcases bst_spec (fun x hx => (h.ord x hx).1) (o := o) (rl F hi lo).length (Nat.le_refl _) with ⟨e, _⟩ | ⟨j, x, hj, hx, e, ho, _⟩
  · rw [e]
  · have := no_mem h t x (List.mem_of_getElem? hx)
    omega
end Go.Proofs.YtlclpnaaaiimaaaDoor
