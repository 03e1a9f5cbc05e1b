/- slices.Sort of []uint64: what a round of pdqsort leaves. -/
import Derived.Test.YthkkcnnlfjchaaaDoorJ9
namespace Go.Proofs.YthkkcnnlfjchaaaDoor
open Go.RowKit Go.Sort

section
variable {w0 W : World} {g : Nat} {d0 d : Array Int}
/-- Whatever rises on [a2, b2) of dk and is of the same words makes [a, b) of d rise. -/
structure GL (d : Array Int) (a b n a2 b2 : Nat) (dk : Array Int) : Prop where
  a1 : a ≤ a2
  ab : a2 ≤ b2
  b1 : b2 ≤ b
  bn : b ≤ n
  sz : dk.size = n
  be : Go.Sort.Below ltInt a2 b2 dk
  gl : ∀ R, PermIn a2 b2 dk R → SortedIn ltInt a2 b2 R → PermIn a b d R ∧ SortedIn ltInt a b R
section
variable {a b n a2 b2 : Nat} {dk d2 : Array Int}
theorem GL.start (hn : d.size = n) (hab : a ≤ b) (hb : b ≤ n) (hB : Go.Sort.Below ltInt a b d) : GL d a b n a b d := ⟨Nat.le_refl _, hab, Nat.le_refl _, hb, hn, hB, fun _ h1 h2 => ⟨h1, h2⟩⟩
theorem GL.perm (h : GL d a b n a2 b2 dk) (p : PermIn a2 b2 dk d2) : GL d a b n a2 b2 d2 :=
  ⟨h.a1, h.ab, h.b1, h.bn, by rw [p.1]; exact h.sz, h.be.perm (by have := h.b1; have := h.bn; have := h.sz; omega) p, fun R h1 h2 => h.gl R (permIn_trans _ _ _ _ _ p h1) h2⟩
theorem GL.peq {m pv : Nat} (h : GL d a b n a2 b2 dk) (h0 : 0 < a2) (hl : ltInt dk[a2 - 1]! dk[pv]! = false) (m1 : a2 < m) (m2 : m ≤ b2) (p : PermIn a2 b2 dk d2)
    (lo : ∀ k, a2 ≤ k → k < m → ltInt dk[pv]! d2[k]! = false) (hi : ∀ k, m ≤ k → k < b2 → ltInt dk[pv]! d2[k]! = true) : GL d a b n m b2 d2 := by
  have hb : b2 ≤ dk.size := by have := h.b1; have := h.bn; have := h.sz; omega
  have hb4 : b2 ≤ d2.size := by rw [p.1]; exact hb
  have S := swo_ltInt
  have hge : ∀ k, a2 ≤ k → k < b2 → ltInt dk[k]! dk[pv]! = false := fun k k1 k2 => by
    rcases h.be with e | e
    · omega
    · exact S.ntrans _ _ _ (e k k1 k2) hl
  have hge2 := permIn_all dk d2 a2 b2 (fun x => ltInt x dk[pv]! = false) hb p hge
  refine ⟨by have := h.a1; omega, m2, h.b1, h.bn, by rw [p.1]; exact h.sz, Or.inr fun k k1 k2 => ?_, fun R h1 h2 => ?_⟩
  · cases hc : ltInt d2[k]! d2[m - 1]! with
    | false => rfl
    | true => have := S.trans _ _ _ (hi k k1 k2) hc; rw [lo (m - 1) (by omega) (by omega)] at this; cases this
  · refine h.gl R (permIn_trans _ _ _ _ _ p (permIn_mono _ _ m b2 a2 b2 (by omega) (Nat.le_refl _) hb4 h1)) ?_
    refine sorted_glue_eq S dk[pv]! h2 (fun k k1 k2 => ?_) (fun k k1 k2 => ?_) (permIn_all d2 R m b2 (fun x => ltInt dk[pv]! x = true) hb4 h1 hi)
    · rw [h1.2.1 k (Or.inl k2)]; exact lo k k1 k2
    · rw [h1.2.1 k (Or.inl k2)]; exact hge2 k k1 (by omega)
/-- Left of m first. -/
theorem GL.left {m : Nat} {d3 : Array Int} (h : GL d a b n a2 b2 dk) (m1 : a2 ≤ m) (m2 : m < b2) (p : PermIn a2 b2 dk d2)
    (lo : ∀ k, a2 ≤ k → k < m → ltInt d2[k]! d2[m]! = true) (hi : ∀ k, m < k → k < b2 → ltInt d2[k]! d2[m]! = false) (p3 : PermIn a2 m d2 d3) (s3 : SortedIn ltInt a2 m d3) : GL d a b n (m + 1) b2 d3 := by
  have S := swo_ltInt
  have hb : b2 ≤ dk.size := by have := h.b1; have := h.bn; have := h.sz; omega
  have hb2 : b2 ≤ d2.size := by rw [p.1]; exact hb
  have hb3 : b2 ≤ d3.size := by rw [p3.1]; exact hb2
  have eL : ∀ k, m ≤ k → d3[k]! = d2[k]! := fun k hk => p3.2.1 k (Or.inr hk)
  refine ⟨by have := h.a1; omega, by omega, h.b1, h.bn, by rw [p3.1, p.1]; exact h.sz, Or.inr fun k k1 k2 => ?_, fun R h1 h2 => ?_⟩
  · rw [Nat.add_sub_cancel, eL k (by omega), eL m (Nat.le_refl _)]; exact hi k (by omega) k2
  · have eR : ∀ k, k ≤ m → R[k]! = d3[k]! := fun k hk => h1.2.1 k (Or.inl (by omega))
    refine h.gl R (permIn_trans _ _ _ _ _ p (permIn_trans _ _ _ _ _ (permIn_mono _ _ a2 m a2 b2 (Nat.le_refl _) (by omega) hb2 p3) (permIn_mono _ _ (m + 1) b2 a2 b2 (by omega) (Nat.le_refl _) hb3 h1))) ?_
    refine sorted_glue S (s3.congr fun k _ k2 => eR k (by omega)) h2 (fun k k1 k2 => ?_) (fun k k1 k2 => ?_)
    · rw [eR k (by omega), eR m (Nat.le_refl _), eL m (Nat.le_refl _)]
      exact permIn_all d2 d3 a2 m (fun x => ltInt x d2[m]! = true) (by omega) p3 lo k k1 k2
    · rw [eR m (Nat.le_refl _), eL m (Nat.le_refl _)]
      exact permIn_all d3 R (m + 1) b2 (fun x => ltInt x d2[m]! = false) hb3 h1 (fun i i1 i2 => by rw [eL i (by omega)]; exact hi i (by omega) i2) k (by omega) k2
/-- Right of m first. -/
theorem GL.right {m : Nat} {d3 : Array Int} (h : GL d a b n a2 b2 dk) (m1 : a2 ≤ m) (m2 : m < b2) (p : PermIn a2 b2 dk d2)
    (lo : ∀ k, a2 ≤ k → k < m → ltInt d2[k]! d2[m]! = true) (hi : ∀ k, m < k → k < b2 → ltInt d2[k]! d2[m]! = false) (p3 : PermIn (m + 1) b2 d2 d3) (s3 : SortedIn ltInt (m + 1) b2 d3) : GL d a b n a2 m d3 := by
  have S := swo_ltInt
  have hb : b2 ≤ dk.size := by have := h.b1; have := h.bn; have := h.sz; omega
  have hb2 : b2 ≤ d2.size := by rw [p.1]; exact hb
  have hb3 : b2 ≤ d3.size := by rw [p3.1]; exact hb2
  have eL : ∀ k, k ≤ m → d3[k]! = d2[k]! := fun k hk => p3.2.1 k (Or.inl (by omega))
  have be2 := h.be.perm hb p
  refine ⟨h.a1, m1, by have := h.b1; omega, h.bn, by rw [p3.1, p.1]; exact h.sz, ?_, fun R h1 h2 => ?_⟩
  · rcases be2 with e | e
    · exact Or.inl e
    · by_cases h0 : a2 = 0
      · exact Or.inl h0
      · exact Or.inr fun k k1 k2 => by rw [eL k (by omega), eL (a2 - 1) (by omega)]; exact e k k1 (by omega)
  · have eR : ∀ k, m ≤ k → R[k]! = d3[k]! := fun k hk => h1.2.1 k (Or.inr hk)
    refine h.gl R (permIn_trans _ _ _ _ _ p (permIn_trans _ _ _ _ _ (permIn_mono _ _ (m + 1) b2 a2 b2 (by omega) (Nat.le_refl _) hb2 p3) (permIn_mono _ _ a2 m a2 b2 (Nat.le_refl _) (by omega) hb3 h1))) ?_
    refine sorted_glue S h2 (s3.congr fun k k1 _ => eR k (by omega)) (fun k k1 k2 => ?_) (fun k k1 k2 => ?_)
    · rw [eR m (Nat.le_refl _), eL m (Nat.le_refl _)]
      exact permIn_all d3 R a2 m (fun x => ltInt x d2[m]! = true) (by omega) h1 (fun i i1 i2 => by rw [eL i (by omega)]; exact lo i i1 i2) k k1 k2
    · rw [eR m (Nat.le_refl _), eL m (Nat.le_refl _), eR k (by omega)]
      exact permIn_all d2 d3 (m + 1) b2 (fun x => ltInt x d2[m]! = false) hb2 p3 (fun i i1 i2 => hi i (by omega) i2) k (by omega) k2
end
end

end Go.Proofs.YthkkcnnlfjchaaaDoor
