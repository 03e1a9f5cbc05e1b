/- slices.symMergeCmpFunc: the pure half of the general case. -/
import Derived.Test.YtpiekhiamdknjaaM3
namespace Go.Proofs.Ytpiekhiamdknjaa
open Go.RowKit Go.Sort Go.Shelf Go.Lib

/-- Where the place p of the turned row comes from. -/
def sig (s m e mid p : Nat) : Nat := if p < s then p else if p < mid then p + (m - s) else if p < e then p - (e - m) else p

/-- The turned row: [s, e) about m; mid is where the two halves part. -/
structure Tn (d d1 : Array Nat) (a s m e b mid : Nat) : Prop where
  size : d1.size = d.size
  perm : PermIn a b d d1
  get : ∀ p, a ≤ p → p < b → d1[p]! = d[sig s m e mid p]!
  sa : a ≤ s
  sm : s ≤ m
  me : m ≤ e
  eb : e ≤ b
  sum : s + e = mid + m
  smid : s ≤ mid
  mide : mid ≤ e

theorem sig_id {s m e mid p : Nat} (h2 : s ≤ m) (h3 : m ≤ e) (h5 : s + e = mid + m) (hn : ¬ (s < m ∧ m < e)) : sig s m e mid p = p := by
  unfold sig
  by_cases c1 : p < s
  · rw [if_pos c1]
  · by_cases c2 : p < mid
    · rw [if_neg c1, if_pos c2]; omega
    · by_cases c3 : p < e
      · rw [if_neg c1, if_neg c2, if_pos c3]; omega
      · rw [if_neg c1, if_neg c2, if_neg c3]

theorem Tn.none {d : Array Nat} {a s m e b mid : Nat} (h1 : a ≤ s) (h2 : s ≤ m) (h3 : m ≤ e) (h4 : e ≤ b) (h5 : s + e = mid + m) (h6 : s ≤ mid) (h7 : mid ≤ e) (hn : ¬ (s < m ∧ m < e)) : Tn d d a s m e b mid :=
  ⟨rfl, permIn_refl d a b, fun _ _ _ => gi (sig_id h2 h3 h5 hn).symm, h1, h2, h3, h4, h5, h6, h7⟩

theorem Tn.rot {d d1 : Array Nat} {a s m e b mid : Nat} (h1 : a ≤ s) (h2 : s < m) (h3 : m < e) (h4 : e ≤ b) (h5 : s + e = mid + m) (h6 : s ≤ mid) (h7 : mid ≤ e) (hb : b ≤ d.size) (hP : PermIn s e d d1)
    (hg : ∀ p, s ≤ p → p < e → d1[p]! = rotT d s m e p) : Tn d d1 a s m e b mid := by
  refine ⟨hP.1, permIn_mono _ _ s e a b h1 h4 hb hP, fun p _ _ => ?_, h1, by omega, by omega, h4, h5, h6, h7⟩
  unfold sig
  by_cases c1 : p < s
  · rw [if_pos c1]; exact hP.2.1 p (.inl c1)
  · by_cases c2 : p < mid
    · rw [if_neg c1, if_pos c2, hg p (by omega) (by omega), rotT, if_pos (by omega)]
    · by_cases c3 : p < e
      · rw [if_neg c1, if_neg c2, if_pos c3, hg p (by omega) c3, rotT, if_neg (by omega)]
      · rw [if_neg c1, if_neg c2, if_neg c3]; exact hP.2.1 p (.inr (by omega))

section
variable {T : Nat → Nat → Bool} {d d1 : Array Nat} {a s m e b mid : Nat}

theorem Tn.s1 (h : Tn d d1 a s m e b mid) (hL : SortedIn T a m d) : SortedIn T a s d1 := fun i j h1 h2 h3 => by
  have := h.sm; have := h.me; have := h.eb
  rw [h.get i (by omega) (by omega), h.get j (by omega) (by omega)]
  simp only [sig, if_pos h3, if_pos (show i < s by omega)]
  exact hL i j h1 h2 (by omega)
theorem Tn.s2 (h : Tn d d1 a s m e b mid) (hR : SortedIn T m b d) : SortedIn T s mid d1 := fun i j h1 h2 h3 => by
  have := h.sm; have := h.me; have := h.eb; have := h.sa; have := h.sum; have := h.mide
  rw [h.get i (by omega) (by omega), h.get j (by omega) (by omega)]
  simp only [sig, if_neg (show ¬ i < s by omega), if_neg (show ¬ j < s by omega), if_pos h3, if_pos (show i < mid by omega)]
  exact hR _ _ (by omega) (by omega) (by omega)
theorem Tn.s3 (h : Tn d d1 a s m e b mid) (hL : SortedIn T a m d) : SortedIn T mid e d1 := fun i j h1 h2 h3 => by
  have := h.sm; have := h.me; have := h.eb; have := h.sa; have := h.sum; have := h.smid
  rw [h.get i (by omega) (by omega), h.get j (by omega) (by omega)]
  simp only [sig, if_neg (show ¬ i < s by omega), if_neg (show ¬ j < s by omega), if_neg (show ¬ i < mid by omega), if_neg (show ¬ j < mid by omega), if_pos h3, if_pos (show i < e by omega)]
  exact hL _ _ (by omega) (by omega) (by omega)
theorem Tn.s4 (h : Tn d d1 a s m e b mid) (hR : SortedIn T m b d) : SortedIn T e b d1 := fun i j h1 h2 h3 => by
  have := h.sm; have := h.me; have := h.eb; have := h.sa; have := h.sum; have := h.smid; have := h.mide
  rw [h.get i (by omega) (by omega), h.get j (by omega) (by omega)]
  simp only [sig, if_neg (show ¬ i < s by omega), if_neg (show ¬ j < s by omega), if_neg (show ¬ i < mid by omega), if_neg (show ¬ j < mid by omega), if_neg (show ¬ i < e by omega), if_neg (show ¬ j < e by omega)]
  exact hR _ _ (by omega) (by omega) (by omega)

theorem Tn.x1 (h : Tn d d1 a s m e b mid) (hC : ∀ p q, a ≤ p → p < m → m ≤ q → q < b → d[p]! < d[q]!) : ∀ p q, a ≤ p → p < s → s ≤ q → q < mid → d1[p]! < d1[q]! := fun p q h1 h2 h3 h4 => by
  have := h.sm; have := h.me; have := h.eb; have := h.sa; have := h.sum; have := h.smid; have := h.mide
  rw [h.get p (by omega) (by omega), h.get q (by omega) (by omega)]
  simp only [sig, if_pos h2, if_neg (show ¬ q < s by omega), if_pos h4]
  exact hC _ _ (by omega) (by omega) (by omega) (by omega)
theorem Tn.x2 (h : Tn d d1 a s m e b mid) (hC : ∀ p q, a ≤ p → p < m → m ≤ q → q < b → d[p]! < d[q]!) : ∀ p q, mid ≤ p → p < e → e ≤ q → q < b → d1[p]! < d1[q]! := fun p q h1 h2 h3 h4 => by
  have := h.sm; have := h.me; have := h.eb; have := h.sa; have := h.sum; have := h.smid; have := h.mide
  rw [h.get p (by omega) (by omega), h.get q (by omega) (by omega)]
  simp only [sig, if_neg (show ¬ p < s by omega), if_neg (show ¬ p < mid by omega), if_pos h2, if_neg (show ¬ q < s by omega), if_neg (show ¬ q < mid by omega), if_neg (show ¬ q < e by omega)]
  exact hC _ _ (by omega) (by omega) (by omega) (by omega)

theorem low_le (hT : SWO T) {i j : Nat} (hS : SortedIn T a b d) (h1 : a ≤ i) (h2 : i ≤ j) (h3 : j < b) : T d[j]! d[i]! = false := by
  rcases Nat.lt_or_eq_of_le h2 with h | h
  · exact hS i j h1 h h3
  · rw [h]; exact hT.irrefl _

theorem Tn.sep (h : Tn d d1 a s m e b mid) (hT : SWO T) (hL : SortedIn T a m d) (hR : SortedIn T m b d) (B1 : a < s → e < b → T d[e]! d[s - 1]! = false) (B2 : s < m → m < e → T d[e - 1]! d[s]! = true) :
    ∀ p q, a ≤ p → p < mid → mid ≤ q → q < b → T d1[q]! d1[p]! = false := fun p q h1 h2 h3 h4 => by
  have := h.sm; have := h.me; have := h.eb; have := h.sa; have := h.sum; have := h.smid; have := h.mide
  rw [h.get p (by omega) (by omega), h.get q (by omega) (by omega)]
  by_cases cp : p < s
  · by_cases cq : q < e
    · simp only [sig, if_pos cp, if_neg (show ¬ q < s by omega), if_neg (show ¬ q < mid by omega), if_pos cq]
      exact low_le hT hL (by omega) (by omega) (by omega)
    · simp only [sig, if_pos cp, if_neg (show ¬ q < s by omega), if_neg (show ¬ q < mid by omega), if_neg cq]
      exact hT.ntrans _ _ _ (low_le hT hR (by omega) (show e ≤ q by omega) h4) (hT.ntrans _ _ _ (B1 (by omega) (by omega)) (low_le hT hL h1 (by omega) (by omega)))
  · by_cases cq : q < e
    · simp only [sig, if_neg cp, if_pos h2, if_neg (show ¬ q < s by omega), if_neg (show ¬ q < mid by omega), if_pos cq]
      exact hT.ntrans _ _ _ (low_le hT hL h.sa (show s ≤ q - (e - m) by omega) (by omega)) (hT.ntrans _ _ _ (SWO.asym hT (B2 (by omega) (by omega))) (low_le hT hR (by omega) (by omega) (by omega)))
    · simp only [sig, if_neg cp, if_pos h2, if_neg (show ¬ q < s by omega), if_neg (show ¬ q < mid by omega), if_neg cq]
      exact low_le hT hR (by omega) (by omega) (by omega)

/-- Both halves merged: the whole is. -/
theorem Tn.join {d2 d3 : Array Nat} (h : Tn d d1 a s m e b mid) (hb : b ≤ d.size) (hsep : ∀ p q, a ≤ p → p < mid → mid ≤ q → q < b → T d1[q]! d1[p]! = false)
    (P1 : PermIn a mid d1 d2) (S1 : SortedIn T a mid d2) (P2 : PermIn mid b d2 d3) (S2 : SortedIn T mid b d3) : PermIn a b d d3 ∧ SortedIn T a b d3 := by
  have z := h.size; have := h.sm; have := h.me; have := h.eb; have := h.sa; have := h.sum; have := h.smid; have := h.mide
  have z2 : d2.size = d.size := P1.1.trans z
  have z3 : d3.size = d.size := P2.1.trans z2
  refine ⟨permIn_trans _ _ _ _ _ h.perm (permIn_trans _ _ _ _ _ (permIn_mono _ _ a mid a b (Nat.le_refl _) (by omega) (by omega) P1) (permIn_mono _ _ mid b a b (by omega) (Nat.le_refl _) (by omega) P2)), fun i j h1 h2 h3 => ?_⟩
  by_cases ci : i < mid
  · rw [P2.2.1 i (.inl ci)]
    by_cases cj : j < mid
    · rw [P2.2.1 j (.inl cj)]; exact S1 i j h1 h2 cj
    · have k1 : ∀ q, mid ≤ q → q < b → ∀ p, a ≤ p → p < mid → T d1[q]! d2[p]! = false := fun q q1 q2 p p1 p2 =>
        permIn_all _ _ a mid (fun x => T d1[q]! x = false) (by omega) P1 (fun r r1 r2 => hsep r q r1 r2 q1 q2) p p1 p2
      exact permIn_all _ _ mid b (fun x => T x d2[i]! = false) (by omega) P2 (fun q q1 q2 => by rw [P1.2.1 q (.inr q1)]; exact k1 q q1 q2 i h1 ci) j (by omega) h3
  · exact S2 i j (by omega) h2 h3

theorem Tn.half1 (h : Tn d d1 a s m e b mid) (hL : SortedIn T a m d) (hR : SortedIn T m b d) (z : ¬ (a < s ∧ s < mid)) : SortedIn T a mid d1 := by
  have := h.sa; have := h.smid
  by_cases z1 : a < s
  · have e1 : s = mid := by omega
    rw [← e1]; exact h.s1 hL
  · have e1 : a = s := by omega
    have k := h.s2 hR
    rw [e1]; exact k
theorem Tn.after {d2 : Array Nat} (h : Tn d d1 a s m e b mid) (hL : SortedIn T a m d) (hR : SortedIn T m b d) (hC : ∀ p q, a ≤ p → p < m → m ≤ q → q < b → d[p]! < d[q]!) (P1 : PermIn a mid d1 d2) :
    SortedIn T mid e d2 ∧ SortedIn T e b d2 ∧ ∀ p q, mid ≤ p → p < e → e ≤ q → q < b → d2[p]! < d2[q]! := by
  have := h.mide
  refine ⟨fun i j h1 h2 h3 => ?_, fun i j h1 h2 h3 => ?_, fun p q h1 h2 h3 h4 => ?_⟩
  · rw [P1.2.1 i (.inr h1), P1.2.1 j (.inr (by omega))]; exact h.s3 hL i j h1 h2 h3
  · rw [P1.2.1 i (.inr (by omega)), P1.2.1 j (.inr (by omega))]; exact h.s4 hR i j h1 h2 h3
  · rw [P1.2.1 p (.inr h1), P1.2.1 q (.inr (by omega))]; exact h.x2 hC p q h1 h2 h3 h4
theorem Tn.half2 {d2 : Array Nat} (h : Tn d d1 a s m e b mid) (hL : SortedIn T a m d) (hR : SortedIn T m b d) (P1 : PermIn a mid d1 d2) (z : ¬ (mid < e ∧ e < b)) : SortedIn T mid b d2 := by
  have := h.mide; have := h.eb
  intro i j h1 h2 h3
  rw [P1.2.1 i (.inr h1), P1.2.1 j (.inr (by omega))]
  by_cases z1 : mid < e
  · have e1 : e = b := by omega
    exact h.s3 hL i j h1 h2 (by omega)
  · exact h.s4 hR i j (by omega) h2 h3
end

end Go.Proofs.Ytpiekhiamdknjaa
