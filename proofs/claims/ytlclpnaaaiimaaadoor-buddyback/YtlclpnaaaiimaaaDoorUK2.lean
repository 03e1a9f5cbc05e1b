/- BuddyBack: in which order, in which pieces. -/
import Derived.Test.YtlclpnaaaiimaaaDoorUK
namespace Go.Proofs.YtlclpnaaaiimaaaDoor
open Go.RowKit

/-- The place that is given at the i-th step. -/
def kk (m c i : Nat) : Nat := if m % 7 = 0 then (i + c) % m else (i * 7 + c) % m
theorem sev_all : (List.range 41).all (fun m => decide (m % 7 = 0) || (List.range m).all (fun a => (List.range m).any (fun i => decide ((i * 7) % m = a)))) = true := by decide +kernel
theorem sev_one : (List.range 41).all (fun m => decide (m % 7 = 0) || (List.range m).all (fun a => (List.range a).all (fun i => !decide ((i * 7) % m = (a * 7) % m)))) = true := by decide +kernel
theorem mod_back {m c x : Nat} (hm : 0 < m) (hc : c ≤ 31) : ((x + c) % m + (32 * m - c)) % m = x % m := by
  rw [Nat.mod_add_mod, show x + c + (32 * m - c) = x + 32 * m by omega, Nat.add_mul_mod_self_right]
theorem kk_lt {m c i : Nat} (hm : 0 < m) : kk m c i < m := by unfold kk; split <;> exact Nat.mod_lt _ hm
theorem kk_one {m c i a : Nat} (hm : m ≤ 40) (hc : c ≤ 31) (h1 : i < a) (h2 : a < m) : kk m c i ≠ kk m c a := by
  unfold kk
  by_cases h7 : m % 7 = 0
  · rw [if_pos h7, if_pos h7]
    intro e
    have e1 := mod_back (m := m) (c := c) (x := i) (by omega) hc
    have e2 := mod_back (m := m) (c := c) (x := a) (by omega) hc
    rw [e, e2, Nat.mod_eq_of_lt h2, Nat.mod_eq_of_lt (by omega)] at e1
    omega
  · rw [if_neg h7, if_neg h7]
    intro e
    have e1 := mod_back (m := m) (c := c) (x := i * 7) (by omega) hc
    have e2 := mod_back (m := m) (c := c) (x := a * 7) (by omega) hc
    rw [e, e2] at e1
    have := List.all_eq_true.1 sev_one m (List.mem_range.2 (by omega))
    rw [decide_eq_false h7, Bool.false_or] at this
    have := List.all_eq_true.1 this a (List.mem_range.2 h2)
    have := List.all_eq_true.1 this i (List.mem_range.2 h1)
    rw [decide_eq_true e1.symm] at this
    cases this
theorem kk_all {m c a : Nat} (hm : m ≤ 40) (hc : c ≤ 31) (ha : a < m) : ∃ i, i < m ∧ kk m c i = a := by
  have hb : (a + 32 * m - c) % m < m := Nat.mod_lt _ (by omega)
  have hx : ((a + 32 * m - c) % m + c) % m = a := by rw [Nat.mod_add_mod, show a + 32 * m - c + c = a + 32 * m by omega, Nat.add_mul_mod_self_right, Nat.mod_eq_of_lt ha]
  unfold kk
  by_cases h7 : m % 7 = 0
  · exact ⟨(a + 32 * m - c) % m, hb, by rw [if_pos h7]; exact hx⟩
  · have := List.all_eq_true.1 sev_all m (List.mem_range.2 (by omega))
    rw [decide_eq_false h7, Bool.false_or] at this
    have := List.all_eq_true.1 this _ (List.mem_range.2 hb)
    obtain ⟨i, h1, h2⟩ := List.any_eq_true.1 this
    exact ⟨i, List.mem_range.1 h1, by rw [if_neg h7, ← Nat.mod_add_mod, of_decide_eq_true h2]; exact hx⟩
/-- Which places are given behind i steps. -/
def giv (m c : Nat) : Nat → Nat → Bool
  | 0 => fun _ => false
  | i + 1 => fun a => giv m c i a || decide (a = kk m c i)
theorem giv_iff (m c : Nat) : ∀ i a, giv m c i a = true ↔ ∃ b, b < i ∧ kk m c b = a
  | 0, a => by simp [giv]
  | i + 1, a => by
    show (giv m c i a || decide (a = kk m c i)) = true ↔ _
    rw [Bool.or_eq_true, giv_iff m c i a, decide_eq_true_iff]
    constructor
    · rintro (⟨b, h1, h2⟩ | h)
      · exact ⟨b, by omega, h2⟩
      · exact ⟨i, by omega, h.symm⟩
    · rintro ⟨b, h1, h2⟩
      by_cases e : b = i
      · subst e; exact .inr h2.symm
      · exact .inl ⟨b, by omega, h2⟩
theorem giv_new {m c i : Nat} (hm : m ≤ 40) (hc : c ≤ 31) (hi : i < m) : giv m c i (kk m c i) = false := by
  cases hv : giv m c i (kk m c i)
  · rfl
  · obtain ⟨b, h1, h2⟩ := (giv_iff m c i _).1 hv
    exact absurd h2 (kk_one hm hc h1 hi)
theorem giv_all {m c : Nat} (hm : m ≤ 40) (hc : c ≤ 31) : ∀ a, a < m → giv m c m a = true := fun a ha => by
  obtain ⟨i, h1, h2⟩ := kk_all hm hc ha
  exact (giv_iff m c m a).2 ⟨i, h1, h2⟩
/-- A piece that is taken all over is given. -/
theorem give_piece {lo hi y e q : Nat} {F : Nat → Bool} (he : e ≤ 9) (hq : q = 2 ^ e) (hy : y % q = 0) (h1 : lo ≤ y) (h2 : y + q ≤ hi) (hn : ∀ k, y ≤ k → k < y + q → F k = false) :
    gvR lo hi F (y : Int) (e : Int) = 0 ∧ ∀ k, gvF lo hi F (y : Int) (e : Int) k = (F k || decide (y ≤ k ∧ k < y + q)) := by
  have es : ((2 ^ e : Nat) : Int) = (2 : Int) ^ e := by push_cast; rfl
  have hO : owns lo hi (y : Int) (e : Int) = true := by
    unfold owns
    rw [Int.toNat_natCast, ← es, ← hq]
    refine decide_eq_true ⟨by omega, by omega, ?_, by omega, by omega⟩
    rw [Int.tmod_eq_emod_of_nonneg (by omega), ← Int.natCast_emod, hy]; rfl
  have hA : anyF F y e = false := by
    cases hv : anyF F y e
    · rfl
    · obtain ⟨i, a, b⟩ := anyF_true hv
      rw [hn (y + i) (by omega) (by omega)] at b; cases b
  have hdm : y / 2 ^ e * 2 ^ e = y := by rw [← hq]; exact Nat.div_mul_cancel (Nat.dvd_of_mod_eq_zero hy)
  refine ⟨?_, fun k => ?_⟩
  · unfold gvR
    rw [hO, if_pos rfl, Int.toNat_natCast, Int.toNat_natCast, hA]; rfl
  · unfold gvF
    rw [hO, Int.toNat_natCast, Int.toNat_natCast, hA, if_pos (by decide)]
    unfold addF
    congr 1
    apply decide_eq_decide.2
    rw [blk_iff, hdm, hq]
end Go.Proofs.YtlclpnaaaiimaaaDoor
