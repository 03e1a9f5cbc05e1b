/- TlbFirst: places of one set, in a list. -/
import Derived.Test.YtclcickhgoiooaaT25
namespace Go.Proofs.Ytclcickhgoiooaa
open Go.RowKit

/-- The first places hold the lines of a list. -/
def plT (pl : List LN) : Nat → PC := fun i => match pl[i]? with | some l => ⟨true, l⟩ | none => zP
theorem plT_nil : plT [] = fun _ => zP := rfl
theorem plT_in {pl : List LN} {i : Nat} {l : LN} (h : pl[i]? = some l) : plT pl i = ⟨true, l⟩ := by unfold plT; rw [h]
theorem plT_out {pl : List LN} {i : Nat} (h : pl.length ≤ i) : plT pl i = zP := by unfold plT; rw [List.getElem?_eq_none h]
theorem plT_snoc (pl : List LN) (l : LN) : updP (plT pl) pl.length ⟨true, l⟩ = plT (pl ++ [l]) := by
  funext i
  unfold updP plT
  by_cases e : i = pl.length
  · subst e
    rw [if_pos rfl, List.getElem?_append_right (Nat.le_refl _), Nat.sub_self]
    rfl
  · rw [if_neg e]
    by_cases c : i < pl.length
    · rw [List.getElem?_append_left c]
    · rw [List.getElem?_eq_none (by omega), List.getElem?_eq_none (by rw [List.length_append, List.length_singleton]; omega)]
theorem plT_set (pl : List LN) (m : Nat) (l : LN) (hm : m < pl.length) : updP (plT pl) m ⟨true, l⟩ = plT (pl.set m l) := by
  funext i
  unfold updP plT
  by_cases e : i = m
  · subst e
    rw [if_pos rfl, List.getElem?_set_self hm]
  · rw [if_neg e, List.getElem?_set_ne (by omega)]
theorem lsT_pl (pl : List LN) : ∀ n, lsT (plT pl) n = pl.take n
  | 0 => by simp [lsT]
  | n + 1 => by
    by_cases c : n < pl.length
    · have e : pl[n]? = some pl[n] := List.getElem?_eq_getElem c
      rw [lsT_on (by rw [plT_in e]), lsT_pl pl n, plT_in e, List.take_add_one, e]
      rfl
    · rw [lsT_off (by rw [plT_out (by omega)]; rfl), lsT_pl pl n, List.take_of_length_le (by omega), List.take_of_length_le (by omega)]
/-- A line of a new name takes the first empty place; in a full set that of the way. -/
theorem pl_fill {pl : List LN} {s k : Nat} {l : LN} {way : Int} (hv : l.v % s = 0) (hl : pl.length ≤ k) (hn : ∀ x ∈ pl, x.v ≠ l.v) :
    filI (plT pl) s k l way = if pl.length < k then pl.length else mdN way k := by
  have h1 := sr_cases (fun j => keyB l.i l.a l.v (plT pl (l.v % s * k + j))) k 0
  have h2 := sr_cases (fun j => !(plT pl (l.v % s * k + j)).on) k 0
  rw [show sr (fun j => keyB l.i l.a l.v (plT pl (l.v % s * k + j))) k 0 = fndI (plT pl) s k l.i l.a l.v from rfl] at h1
  rw [show sr (fun j => !(plT pl (l.v % s * k + j)).on) k 0 = empI (plT pl) s k l.v from rfl] at h2
  unfold filI wayI
  rw [hv, Nat.zero_mul] at *
  have e1 : fndI (plT pl) s k l.i l.a l.v = -1 := by
    rcases h1 with ⟨e, _⟩ | ⟨j, _, _, _, j2, _⟩
    · exact e
    · exfalso
      obtain ⟨k1, _, _, k4⟩ := keyB_iff.1 j2
      rw [Nat.zero_add] at k1 k4
      by_cases c : j < pl.length
      · have e := List.getElem?_eq_getElem c
        rw [plT_in e] at k4
        exact hn _ (List.getElem_mem c) k4
      · rw [plT_out (by omega)] at k1
        cases k1
  rw [e1, if_pos rfl]
  by_cases c : pl.length < k
  · rw [if_pos c]
    rcases h2 with ⟨_, n2⟩ | ⟨j, e2, _, j1, j2, j3⟩
    · have := n2 pl.length (by omega) (by omega)
      rw [Nat.zero_add, plT_out (Nat.le_refl _)] at this
      cases this
    · rw [e2, if_neg (by omega), Int.toNat_natCast, Nat.zero_add]
      rcases Nat.lt_trichotomy j pl.length with d | d | d
      · have e := List.getElem?_eq_getElem d
        rw [Nat.zero_add, plT_in e] at j2
        cases j2
      · exact d
      · have := j3 pl.length (by omega) d
        rw [Nat.zero_add, plT_out (Nat.le_refl _)] at this
        cases this
  · rw [if_neg c]
    rcases h2 with ⟨e2, _⟩ | ⟨j, e2, _, j1, j2, _⟩
    · rw [e2, if_pos rfl, Nat.zero_add]
    · exfalso
      have d : j < pl.length := by omega
      have e := List.getElem?_eq_getElem d
      rw [Nat.zero_add, plT_in e] at j2
      cases j2
theorem pl_names {pl : List LN} {m : Nat} {l x : LN} (h : x ∈ pl.set m l) : x = l ∨ x ∈ pl := by
  rcases List.mem_or_eq_of_mem_set h with h | h
  · exact .inr h
  · exact .inl h

end Go.Proofs.Ytclcickhgoiooaa
