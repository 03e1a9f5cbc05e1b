/- DirtyTells: what is noted, by reckoning. -/
import Derived.Test.YthkkcnnlfjchaaaDoorLC
import Derived.Test.YthkkcnnlfjchaaaDoorOM
namespace Go.Proofs.YthkkcnnlfjchaaaDoor
open Go.RowKit Go.Maps
set_option maxRecDepth 10000

section
variable (l : Nat → Nat) (fg : Nat → Bool)
/-- Which pages are there behind the first i rounds, if the log was empty ahead of the round s. -/
def SNt (s : Nat) : Nat → Nat → Bool
  | 0, _ => false
  | i + 1, q => if i < s then false else (SNt s i q || decide (q = l i)) && !(fg i && decide (q = l (i / 2)))
/-- Is the page of round k forgotten behind its last note? -/
def GNt (k : Nat) : Nat → Bool
  | 0 => false
  | j + 1 => if j < k then false else (if l j = l k then false else GNt k j) || (fg j && decide (l (j / 2) = l k))
variable {l fg}
theorem SNt_low {s : Nat} : ∀ {i : Nat} (_ : i ≤ s) (q : Nat), SNt l fg s i q = false
  | 0, _, _ => rfl
  | i + 1, h, q => by unfold SNt; rw [if_pos (by omega)]
theorem SNt_on {s i : Nat} (h : s ≤ i) (q : Nat) : SNt l fg s (i + 1) q = ((SNt l fg s i q || decide (q = l i)) && !(fg i && decide (q = l (i / 2)))) := by
  conv => lhs; unfold SNt
  rw [if_neg (by omega)]
theorem GNt_low {k : Nat} : ∀ {j : Nat} (_ : j ≤ k), GNt l fg k j = false
  | 0, _ => rfl
  | j + 1, h => by unfold GNt; rw [if_pos (by omega)]
theorem GNt_on {k j : Nat} (h : k ≤ j) : GNt l fg k (j + 1) = ((if l j = l k then false else GNt l fg k j) || (fg j && decide (l (j / 2) = l k))) := by
  conv => lhs; unfold GNt
  rw [if_neg (by omega)]
theorem SNt_mem {s : Nat} : ∀ {i q : Nat}, SNt l fg s i q = true → ∃ k, s ≤ k ∧ k < i ∧ l k = q
  | 0, q, h => by cases h
  | i + 1, q, h => by
    by_cases c : i < s
    · rw [SNt_low (by omega)] at h; cases h
    · rw [SNt_on (by omega)] at h
      simp only [Bool.and_eq_true, Bool.or_eq_true, decide_eq_true_eq] at h
      rcases h.1 with h | h
      · obtain ⟨k, k1, k2, k3⟩ := SNt_mem h
        exact ⟨k, k1, by omega, k3⟩
      · exact ⟨i, by omega, by omega, h.symm⟩
theorem gone_is {s k : Nat} (hk : s ≤ k) : ∀ {j : Nat} (_ : k < j), SNt l fg s j (l k) = !GNt l fg k j
  | 0, h => by omega
  | j + 1, h => by
    rw [SNt_on (by omega), GNt_on (by omega), Bool.not_or]
    have e : decide (l k = l (j / 2)) = decide (l (j / 2) = l k) := decide_eq_decide.2 eq_comm
    rw [e]
    congr 1
    by_cases c : l j = l k
    · rw [if_pos c, decide_eq_true c.symm]; simp
    · rw [if_neg c, decide_eq_false (fun q : l k = l j => c q.symm), Bool.or_false]
      have : k < j := by
        rcases Nat.lt_or_ge k j with d | d
        · exact d
        · exact absurd (by rw [show j = k by omega]) c
      exact gone_is hk this
end
/-- The list's words. -/
def lwN (f : Nat → Int) (i : Nat) : Nat := (f i).toNat
theorem NSK.wat {w : World} {na : Option Addr} {m : Nat} {f : Nat → Int} (h : NSK .u64 w na m f) {i : Nat} (hi : i < m) : ∃ (b s : Nat), na = some ⟨b, s, none⟩ ∧ b < w.heap.size ∧ w.cell? ⟨b, s + i, none⟩ = some (.int .u64 (lwN f i : Nat)) ∧ lwN f i < 18446744073709551616 := by
  obtain ⟨⟨b, s, e, hb, hc⟩, hw⟩ := h i hi
  obtain ⟨h1, h2⟩ := wf_word hw
  refine ⟨b, s, e, hb, ?_, by unfold lwN; omega⟩
  rw [hc]
  unfold lwN
  rw [Int.toNat_of_nonneg h1]
def fgB (mb : Nat) (nb : Nat → Bool) (i : Nat) : Bool := decide (i < mb) && nb i
theorem LGo.hasq {w0 wr : World} {p : Nat} {on : Bool} {W : Nat → Nat} {o : Nat} (h : LGo w0 wr p on W o) (x : Nat) (hx : x < 18446744073709551616) : Calls Tryd.prog 19 #[.pointer (some ⟨p, 0, none⟩), .int .u64 (x : Int)] wr fun e w' => e = .returned (.bool (hasW W x)) ∧ ∃ n, w' = wr.drewN n := by
  obtain ⟨bm, K, d, l, u⟩ := h.d
  exact dghas_any d x hx

/-- Ahead of round i. -/
structure TLs (w wr : World) (p n : Nat) (l : Nat → Nat) (fg : Nat → Bool) (fr i : Nat) : Prop where
  ex : ∃ W o, LGo w wr p true W o ∧ o ≤ i ∧ ∀ q, hasW W q = SNt l fg fr i q
  fi : fr ≤ i
theorem TLs.start {w wr : World} {p n : Nat} {l : Nat → Nat} {fg : Nat → Bool} (h : LGo w wr p true W00 0) : TLs w wr p n l fg 0 0 := ⟨⟨W00, 0, h, Nat.le_refl _, fun q => hasW_none q⟩, Nat.le_refl _⟩

end Go.Proofs.YthkkcnnlfjchaaaDoor
