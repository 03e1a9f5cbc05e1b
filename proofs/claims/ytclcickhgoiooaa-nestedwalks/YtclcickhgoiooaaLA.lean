/- A frame with some slots laid anew; what operations wait for. -/
import Derived.Test.YtclcickhgoiooaaEM
import Derived.Test.YtclcickhgoiooaaU0
namespace Go.Proofs.Ytclcickhgoiooaa
open Go.RowKit

/-- One value changed. -/
def updV (u : Nat → Value) (k : Nat) (v : Value) : Nat → Value := fun j => if j = k then v else u j
/-- A frame with n slots from s on laid anew. -/
def lays (s : Nat) (u : Nat → Value) : Nat → Array Value → Array Value
  | 0, t => t
  | n + 1, t => (lays s u n t).setIfInBounds (s + n) (u n)
theorem lays_size (s : Nat) (u : Nat → Value) (t : Array Value) : ∀ n, (lays s u n t).size = t.size
  | 0 => rfl
  | n + 1 => by rw [lays, Array.size_setIfInBounds, lays_size s u t n]
theorem lays_get (s : Nat) (u : Nat → Value) (t : Array Value) : ∀ n i, (lays s u n t)[i]? = if s ≤ i ∧ i < s + n ∧ i < t.size then some (u (i - s)) else t[i]?
  | 0, i => by rw [if_neg (by omega)]; rfl
  | n + 1, i => by
    rw [lays, Array.getElem?_setIfInBounds, lays_size, lays_get s u t n]
    by_cases c : s + n = i
    · subst c
      rw [if_pos rfl]
      by_cases d : s + n < t.size
      · rw [if_pos d, if_pos (by omega), show s + n - s = n by omega]
      · rw [if_neg d, if_neg (by omega)]
        simp; omega
    · rw [if_neg c]
      by_cases d : s ≤ i ∧ i < s + n ∧ i < t.size
      · rw [if_pos d, if_pos (by omega)]
      · rw [if_neg d, if_neg (by omega)]
/-- The frame a with n slots from s on laid anew. -/
def layA (a : Act) (s n : Nat) (u : Nat → Value) : Act := { tmps := lays s u n a.tmps, defers := a.defers }
theorem layA_put (a : Act) (s n k : Nat) (u : Nat → Value) (v : Value) (hk : k < n) : (layA a s n u).put (some (s + k)) v = layA a s n (updV u k v) := by
  unfold layA Act.put
  simp only [Act.mk.injEq, and_true]
  apply Array.ext_getElem?
  intro i
  rw [Array.getElem?_setIfInBounds, lays_size, lays_get, lays_get]
  by_cases c : s + k = i
  · subst c
    rw [if_pos rfl]
    by_cases d : s + k < a.tmps.size
    · rw [if_pos d, if_pos (by omega)]
      unfold updV
      rw [if_pos (by omega)]
    · rw [if_neg d, if_neg (by omega)]
      simp; omega
  · rw [if_neg c]
    by_cases d : s ≤ i ∧ i < s + n ∧ i < a.tmps.size
    · rw [if_pos d, if_pos d]
      unfold updV
      rw [if_neg (by omega)]
    · rw [if_neg d, if_neg d]
theorem layA_in (a : Act) (s n k : Nat) (u : Nat → Value) (hk : k < n) (hs : s + n ≤ a.tmps.size) : (layA a s n u).eval (.tmp (s + k)) = u k := by
  show (lays s u n a.tmps).getD (s + k) undef = _
  rw [Array.getD_eq_getD_getElem?, lays_get, if_pos (by omega), show s + k - s = k by omega]
  rfl
theorem layA_out (a : Act) (s n k : Nat) (u : Nat → Value) (hk : k < s) : (layA a s n u).eval (.tmp k) = a.eval (.tmp k) := by
  show (lays s u n a.tmps).getD k undef = a.tmps.getD k undef
  rw [Array.getD_eq_getD_getElem?, lays_get, if_neg (by omega), Array.getD_eq_getD_getElem?]
theorem layA_self (a : Act) (s n : Nat) (hs : s + n ≤ a.tmps.size) : layA a s n (fun k => a.eval (.tmp (s + k))) = a := by
  obtain ⟨t, d⟩ := a
  unfold layA
  simp only [Act.mk.injEq, and_true]
  apply Array.ext_getElem?
  intro i
  rw [lays_get]
  by_cases c : s ≤ i ∧ i < s + n ∧ i < t.size
  · rw [if_pos c]
    show some (t.getD (s + (i - s)) undef) = _
    rw [show s + (i - s) = i by omega, Array.getD_eq_getD_getElem?, Array.getElem?_eq_getElem c.2.2]
    rfl
  · rw [if_neg c]

/-- What an operation that may be next waits for is done. -/
theorem ready_dep {ops : Array Oper} {t : Array Bool} {i : Nat} {q : Oper} {e : Edge} (h : i ∈ Region.ready .any ops t) (hq : ops[i]? = some q) (he : e ∈ q.after) (hb : Region.binds .any e = true) : t.getD e.on false = true := by
  obtain ⟨_, q', hq', ha⟩ := mem_ready.1 h
  rw [hq] at hq'
  cases hq'
  exact ha e he hb
/-- Where none may be next all are done. -/
theorem ready_all {ops : Array Oper} {t : Array Bool} (hd : ((List.range ops.size).all fun i => ((ops[i]?).map fun q => q.after.all fun e => decide (e.on < i)).getD true) = true) (hs : t.size = ops.size) (hr : Region.ready .any ops t = []) : ∀ i, i < ops.size → t.getD i false = true := by
  intro i
  induction i using Nat.strongRecOn with
  | _ i ih =>
    intro hi
    cases c : t.getD i false
    · have hq : ops[i]? = some ops[i] := Array.getElem?_eq_getElem hi
      have hm : i ∈ Region.ready .any ops t := by
        refine mem_ready.2 ⟨?_, _, hq, fun e he _ => ?_⟩
        · rw [Array.getD_eq_getD_getElem?, Array.getElem?_eq_getElem (by omega)] at c ⊢
          exact c
        · rw [List.all_eq_true] at hd
          have := hd i (List.mem_range.2 hi)
          rw [hq] at this
          simp only [Option.map_some, Option.getD_some, Array.all_eq_true_iff_forall_mem, decide_eq_true_eq] at this
          have l := this e he
          exact ih e.on l (by omega)
      rw [hr] at hm
      cases hm
    · rfl

end Go.Proofs.Ytclcickhgoiooaa
