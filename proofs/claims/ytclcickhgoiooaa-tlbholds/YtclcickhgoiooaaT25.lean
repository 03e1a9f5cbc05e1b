/- tlb: where lines stand; the program and the document tell the same. -/
import Derived.Test.YtclcickhgoiooaaT7
import Derived.Test.YtclcickhgoiooaaT21
import Derived.Test.YtclcickhgoiooaaT24
import Derived.Test.YtclcickhgoiooaaT10
namespace Go.Proofs.Ytclcickhgoiooaa
open Go.RowKit

/-- Lines stand in their sets, and an empty place is 0 all over. -/
structure TI (T : Nat → PC) (s k : Nat) : Prop where
  pl : ∀ i, i < s * k → (T i).on = true → i / k = (T i).l.v % s
  em : ∀ i, (T i).on = false → T i = zP
theorem TI.zero (s k : Nat) : TI (fun _ => zP) s k := ⟨fun _ _ h => (by cases h), fun _ _ => rfl⟩

theorem mdN_lt (way : Int) (k : Nat) (hk : 1 ≤ k) : mdN way k < k := by
  obtain ⟨t, m, m1, _, _, m4, m5⟩ := place_of way k (by omega)
  have : mdN way k = m := by unfold mdN; rw [m1, m4]; rfl
  omega
theorem wayI_lt (T : Nat → PC) (s k : Nat) (i a : Int) (v : Nat) (way : Int) (hk : 1 ≤ k) : wayI (fndI T s k i a v) (empI T s k v) (mdN way k) < k := by
  have h1 := sr_cases (fun j => keyB i a v (T (v % s * k + j))) k 0
  have h2 := sr_cases (fun j => !(T (v % s * k + j)).on) k 0
  rw [show sr (fun j => keyB i a v (T (v % s * k + j))) k 0 = fndI T s k i a v from rfl] at h1
  rw [show sr (fun j => !(T (v % s * k + j)).on) k 0 = empI T s k v from rfl] at h2
  have h3 := mdN_lt way k hk
  unfold wayI
  rcases h1 with ⟨e, _⟩ | ⟨j, e, _, h, _⟩
  · rw [e, if_pos rfl]
    rcases h2 with ⟨e, _⟩ | ⟨j, e, _, h, _⟩
    · rw [e, if_pos rfl]; exact h3
    · rw [e, if_neg (by omega), Int.toNat_natCast]; omega
  · rw [e, if_neg (by omega), Int.toNat_natCast]; omega
theorem set_div {m k j : Nat} (hj : j < k) : (m * k + j) / k = m := by
  rw [Nat.add_comm, Nat.add_mul_div_right _ _ (by omega), Nat.div_eq_of_lt hj, Nat.zero_add]
theorem filI_lt (T : Nat → PC) {s k : Nat} (l : LN) (way : Int) (hs : 1 ≤ s) (hk : 1 ≤ k) : filI T s k l way < s * k := by
  have h1 := wayI_lt T s k l.i l.a l.v way hk
  have h2 := set_le (k := k) (v := l.v) hs
  unfold filI
  omega
theorem filI_div (T : Nat → PC) {s k : Nat} (l : LN) (way : Int) (hk : 1 ≤ k) : filI T s k l way / k = l.v % s := set_div (wayI_lt T s k l.i l.a l.v way hk)

section
variable {T : Nat → PC} {s k : Nat}
theorem TI.upd (h : TI T s k) (i : Nat) (l : LN) (hi : i / k = l.v % s) : TI (updP T i ⟨true, l⟩) s k where
  pl n hn hon := by
    unfold updP at hon ⊢
    by_cases e : n = i
    · rw [if_pos e]; subst e; exact hi
    · rw [if_neg e] at hon ⊢; exact h.pl n hn hon
  em n hon := by
    unfold updP at hon ⊢
    by_cases e : n = i
    · rw [if_pos e] at hon; cases hon
    · rw [if_neg e] at hon ⊢; exact h.em n hon
theorem TI.off (h : TI T s k) (i : Nat) : TI (updP T i zP) s k where
  pl n hn hon := by
    unfold updP at hon ⊢
    by_cases e : n = i
    · rw [if_pos e] at hon; cases hon
    · rw [if_neg e] at hon ⊢; exact h.pl n hn hon
  em n hon := by
    unfold updP at hon ⊢
    by_cases e : n = i
    · rw [if_pos e]
    · rw [if_neg e] at hon ⊢; exact h.em n hon
theorem TI.los (h : TI T s k) (P : LN → Bool) (n : Nat) : TI (losT T P n) s k where
  pl i hi hon := by
    unfold losT at hon ⊢
    by_cases e : i < n ∧ ((T i).on && P (T i).l) = true
    · rw [if_pos e] at hon; cases hon
    · rw [if_neg e] at hon ⊢; exact h.pl i hi hon
  em i hon := by
    unfold losT at hon ⊢
    by_cases e : i < n ∧ ((T i).on && P (T i).l) = true
    · rw [if_pos e]
    · rw [if_neg e] at hon ⊢; exact h.em i hon
theorem TI.ev (h : TI T s k) (x y : Int) : TI (evT T s k x y) s k := by
  unfold evT
  cases evI s k x y with
  | none => exact h
  | some i => exact h.off i
theorem TI.fill (h : TI T s k) (l : LN) (way : Int) (hk : 1 ≤ k) : TI (updP T (filI T s k l way) ⟨true, l⟩) s k := h.upd _ l (filI_div T l way hk)

/-- Where the line of a name is, among all places, is where it is in its set. -/
theorem TI.at_fnd (h : TI T s k) (hs : 1 ≤ s) (hk : 1 ≤ k) (i a : Int) (v : Nat) : (fndI T s k i a v = -1 ∧ atI T (s * k) i a v = -1) ∨ ∃ j : Nat, fndI T s k i a v = (j : Int) ∧ j < k ∧ atI T (s * k) i a v = ((v % s * k + j : Nat) : Int) := by
  have h1 := sr_cases (fun j => keyB i a v (T (v % s * k + j))) k 0
  have h2 := sr_cases (fun j => keyB i a v (T j)) (s * k) 0
  rw [show sr (fun j => keyB i a v (T (v % s * k + j))) k 0 = fndI T s k i a v from rfl] at h1
  rw [show sr (fun j => keyB i a v (T j)) (s * k) 0 = atI T (s * k) i a v from rfl] at h2
  have hle := set_le (k := k) (v := v) hs
  rcases h1 with ⟨e1, n1⟩ | ⟨j, e1, _, j1, j2, j3⟩
  · rcases h2 with ⟨e2, _⟩ | ⟨m, e2, _, m1, m2, _⟩
    · exact .inl ⟨e1, e2⟩
    · exfalso
      obtain ⟨k1, _, _, k4⟩ := keyB_iff.1 m2
      have hd := h.pl m (by omega) k1
      rw [k4] at hd
      have hm : v % s * k + m % k = m := by
        rw [← hd, Nat.mul_comm]; exact Nat.div_add_mod m k
      have := n1 (m % k) (by omega) (by have := Nat.mod_lt m (show 0 < k by omega); omega)
      rw [hm] at this
      rw [this] at m2
      cases m2
  · refine .inr ⟨j, e1, by omega, ?_⟩
    rcases h2 with ⟨_, n2⟩ | ⟨m, e2, _, m1, m2, m3⟩
    · have := n2 (v % s * k + j) (by omega) (by omega)
      rw [this] at j2
      cases j2
    · rw [e2]
      obtain ⟨k1, _, _, k4⟩ := keyB_iff.1 m2
      have hd := h.pl m (by omega) k1
      rw [k4] at hd
      have hm : v % s * k + m % k = m := by
        rw [← hd, Nat.mul_comm]; exact Nat.div_add_mod m k
      have hk2 := Nat.mod_lt m (show 0 < k by omega)
      rcases Nat.lt_trichotomy (m % k) j with c | c | c
      · have := j3 (m % k) (by omega) c
        rw [hm] at this
        rw [this] at m2
        cases m2
      · omega
      · have := m3 (v % s * k + j) (by omega) (by omega)
        rw [this] at j2
        cases j2
theorem TI.find (h : TI T s k) (hs : 1 ≤ s) (hk : 1 ≤ k) (i a : Int) (v : Nat) : rfL T (s * k) i a v = fndL T s k i a v ∧ rfB T (s * k) i a v = fndB T s k i a v := by
  unfold rfL fndL rfB fndB
  rcases h.at_fnd hs hk i a v with ⟨e1, e2⟩ | ⟨j, e1, _, e2⟩
  · rw [e1, e2]; exact ⟨rfl, rfl⟩
  · rw [e1, e2, if_neg (by omega), if_neg (by omega), Int.toNat_natCast, Int.toNat_natCast]
    refine ⟨rfl, ?_⟩
    rw [show (((v % s * k + j : Nat) : Int) == -1) = false from by rw [beq_eq_false_iff_ne]; omega, show ((j : Int) == -1) = false from by rw [beq_eq_false_iff_ne]; omega]
theorem TI.filI (h : TI T s k) (hs : 1 ≤ s) (hk : 1 ≤ k) (l : LN) (way : Int) : rfilI T s k l way = filI T s k l way := by
  unfold rfilI Go.Proofs.Ytclcickhgoiooaa.filI rwI wayI
  rcases h.at_fnd hs hk l.i l.a l.v with ⟨e1, e2⟩ | ⟨j, e1, _, e2⟩
  · rw [e1, e2, if_pos rfl, if_pos rfl]
  · rw [e1, e2, if_neg (by omega), if_neg (by omega), Int.toNat_natCast, Int.toNat_natCast]
theorem TI.was (h : TI T s k) (i : Nat) : rwas (T i) = (T i).l := by
  unfold rwas
  cases e : (T i).on
  · rw [if_neg (by decide), h.em i e]; rfl
  · rw [if_pos rfl]
end

end Go.Proofs.Ytclcickhgoiooaa
