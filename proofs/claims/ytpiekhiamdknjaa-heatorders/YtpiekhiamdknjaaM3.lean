/- slices.symMergeCmpFunc where one of the two parts is one place alone: the pure half. -/
import Derived.Test.YtpiekhiamdknjaaM2
namespace Go.Proofs.Ytpiekhiamdknjaa
open Go.RowKit Go.Sort Go.Shelf Go.Lib

/-- What lies at a goes up t places. -/
def bubU (d : Array Nat) (a : Nat) : Nat → Array Nat
  | 0 => d
  | t + 1 => swp (bubU d a t) (a + t) (a + t + 1)
theorem bubU_size (d : Array Nat) (a : Nat) : ∀ t, (bubU d a t).size = d.size
  | 0 => rfl
  | t + 1 => by rw [bubU, swp_size]; exact bubU_size d a t
theorem bubU_perm (d : Array Nat) (a b : Nat) (hb : b ≤ d.size) : ∀ t, a + t < b → PermIn a b d (bubU d a t)
  | 0, _ => permIn_refl d a b
  | t + 1, h => permIn_trans _ _ _ _ _ (bubU_perm d a b hb t (by omega)) (swp_permIn _ a b (a + t) (a + t + 1) (by omega) (by omega) (by omega) (by omega) (by rw [bubU_size]; exact hb))
theorem bubU_get (d : Array Nat) (a : Nat) : ∀ t, a + t < d.size → ∀ p, (bubU d a t)[p]! = if a ≤ p ∧ p < a + t then d[p + 1]! else if p = a + t then d[a]! else d[p]!
  | 0, _, p => by
    rw [bubU, if_neg (by omega)]
    split
    · exact gi (by omega)
    · rfl
  | t + 1, h, p => by
    rw [bubU, swp_get _ (by rw [bubU_size]; omega) (by rw [bubU_size]; omega), bubU_get d a t (by omega) (a + t), bubU_get d a t (by omega) (a + t + 1), bubU_get d a t (by omega) p]
    repeat' split
    all_goals first | rfl | (exfalso; omega) | exact gi (by omega)

/-- What lies at m goes down t places. -/
def bubD (d : Array Nat) (m : Nat) : Nat → Array Nat
  | 0 => d
  | t + 1 => swp (bubD d m t) (m - t) (m - t - 1)
theorem bubD_size (d : Array Nat) (m : Nat) : ∀ t, (bubD d m t).size = d.size
  | 0 => rfl
  | t + 1 => by rw [bubD, swp_size]; exact bubD_size d m t
theorem bubD_perm (d : Array Nat) (a m b : Nat) (hb : b ≤ d.size) (hm : m < b) : ∀ t, a + t ≤ m → PermIn a b d (bubD d m t)
  | 0, _ => permIn_refl d a b
  | t + 1, h => permIn_trans _ _ _ _ _ (bubD_perm d a m b hb hm t (by omega)) (swp_permIn _ a b (m - t) (m - t - 1) (by omega) (by omega) (by omega) (by omega) (by rw [bubD_size]; exact hb))
theorem bubD_get (d : Array Nat) (m : Nat) (hm : m < d.size) : ∀ t, t ≤ m → ∀ p, (bubD d m t)[p]! = if m - t < p ∧ p ≤ m then d[p - 1]! else if p = m - t then d[m]! else d[p]!
  | 0, _, p => by
    rw [bubD, if_neg (by omega)]
    split
    · exact gi (by omega)
    · rfl
  | t + 1, h, p => by
    rw [bubD, swp_get _ (by rw [bubD_size]; omega) (by rw [bubD_size]; omega), bubD_get d m hm t (by omega) (m - t), bubD_get d m hm t (by omega) (m - t - 1), bubD_get d m hm t (by omega) p]
    repeat' split
    all_goals first | rfl | (exfalso; omega) | exact gi (by omega)

theorem sorted_bubU {T : Nat → Nat → Bool} (hT : SWO T) (d : Array Nat) (a b i : Nat) (h1 : a + 1 ≤ i) (h2 : i ≤ b) (hb : b ≤ d.size) (hS : SortedIn T (a + 1) b d)
    (hl : i = a + 1 ∨ T d[i - 1]! d[a]! = true) (hr : i = b ∨ T d[i]! d[a]! = false) : SortedIn T a b (bubU d a (i - 1 - a)) := by
  intro p q hp hpq hq
  rw [bubU_get d a _ (by omega) p, bubU_get d a _ (by omega) q]
  have e : a + (i - 1 - a) = i - 1 := by omega
  rw [e]
  by_cases p1 : a ≤ p ∧ p < i - 1
  · rw [if_pos p1]
    by_cases q1 : a ≤ q ∧ q < i - 1
    · rw [if_pos q1]; exact hS (p + 1) (q + 1) (by omega) (by omega) (by omega)
    · by_cases q2 : q = i - 1
      · rw [if_neg q1, if_pos q2]
        have k1 : T d[a]! d[i - 1]! = false := SWO.asym hT (hl.resolve_left (by omega))
        by_cases c : p + 1 = i - 1
        · rw [c]; exact k1
        · exact hT.ntrans _ _ _ k1 (hS (p + 1) (i - 1) (by omega) (by omega) (by omega))
      · rw [if_neg q1, if_neg q2]; exact hS (p + 1) q (by omega) (by omega) (by omega)
  · by_cases p2 : p = i - 1
    · rw [if_neg p1, if_pos p2, if_neg (by omega), if_neg (by omega)]
      rcases hr with h | h
      · omega
      · by_cases c : q = i
        · rw [c]; exact h
        · exact hT.ntrans _ _ _ (hS i q (by omega) (by omega) (by omega)) h
    · rw [if_neg p1, if_neg p2, if_neg (by omega), if_neg (by omega)]
      exact hS p q (by omega) hpq hq

theorem sorted_bubD {T : Nat → Nat → Bool} (hT : SWO T) (d : Array Nat) (a m i : Nat) (h1 : a ≤ i) (h2 : i ≤ m) (hm : m < d.size) (hS : SortedIn T a m d)
    (hl : i = a ∨ T d[m]! d[i - 1]! = false) (hr : i = m ∨ T d[m]! d[i]! = true) : SortedIn T a (m + 1) (bubD d m (m - i)) := by
  intro p q hp hpq hq
  rw [bubD_get d m hm _ (by omega) p, bubD_get d m hm _ (by omega) q]
  have e : m - (m - i) = i := by omega
  rw [e]
  by_cases p1 : i < p ∧ p ≤ m
  · rw [if_pos p1, if_pos (by omega)]; exact hS (p - 1) (q - 1) (by omega) (by omega) (by omega)
  · by_cases p2 : p = i
    · rw [if_neg p1, if_pos p2, if_pos (by omega)]
      have k1 : T d[i]! d[m]! = false := SWO.asym hT (hr.resolve_left (by omega))
      by_cases c : q - 1 = i
      · rw [c]; exact k1
      · exact hT.ntrans _ _ _ (hS i (q - 1) (by omega) (by omega) (by omega)) k1
    · rw [if_neg p1, if_neg p2]
      by_cases q1 : i < q ∧ q ≤ m
      · rw [if_pos q1]; exact hS p (q - 1) (by omega) (by omega) (by omega)
      · by_cases q2 : q = i
        · rw [if_neg q1, if_pos q2]
          rcases hl with h | h
          · omega
          · by_cases c : p = i - 1
            · rw [c]; exact h
            · exact hT.ntrans _ _ _ h (hS p (i - 1) (by omega) (by omega) (by omega))
        · rw [if_neg q1, if_neg q2]; exact hS p q hp hpq (by omega)

/-- What a merge is told, once. -/
structure MC (g : Nat) (cb : Array Value) (enc : Nat → Value) (cf : Nat → Nat → Int) (blk off : Nat) (d0 : Array Nat) (w0 : World) : Prop where
  eg : ∀ args w, (callFunc g args).run Try.prog w = .ok (.enter g args) w
  cmp : CmpLays1 Try.prog g cb enc cf blk off d0.size w0
  row : Row1 enc w0 blk off d0
  swo : SWO (ltOf cf)
  small : d0.size < 1000

end Go.Proofs.Ytpiekhiamdknjaa
