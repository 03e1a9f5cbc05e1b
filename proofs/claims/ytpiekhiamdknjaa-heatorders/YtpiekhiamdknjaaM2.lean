/- slices.rotateCmpFunc over places. -/
import Derived.Test.YtpiekhiamdknjaaM1
namespace Go.Proofs.Ytpiekhiamdknjaa
open Go.RowKit Go.Sort Go.Shelf Go.Lib

/-- What lies between m - i and m + j is still to be turned about m; t is what is wanted in the end. -/
structure RotI (t : Nat → Nat) (a m b i j : Nat) (d : Array Nat) : Prop where
  out : ∀ p, a ≤ p → p < b → (p < m - i ∨ m + j ≤ p) → d[p]! = t p
  low : ∀ p, m - i ≤ p → p < m - i + j → t p = d[p + i]!
  high : ∀ p, m - i + j ≤ p → p < m + j → t p = d[p - j]!

theorem RotI.stepA {t : Nat → Nat} {a m b i j : Nat} {d : Array Nat} (h : RotI t a m b i j d) (hi : i ≤ m) (hj : 0 < j) (hij : j < i) (hs : m + j ≤ d.size) : RotI t a m b (i - j) j (swpR d (m - i) m j) := by
  have G := swpR_get d (m - i) m j (by omega) (by omega)
  refine ⟨fun p h1 h2 h3 => ?_, fun p h1 h2 => ?_, fun p h1 h2 => ?_⟩
  · rw [G p]
    by_cases c : m - i ≤ p ∧ p < m - i + j
    · rw [if_pos c, h.low p c.1 c.2]; exact gi (by omega)
    · rw [if_neg c, if_neg (by omega)]; exact h.out p h1 h2 (by omega)
  · rw [G, if_neg (by omega), if_pos (by omega), h.high p (by omega) (by omega)]; exact gi (by omega)
  · rw [G, if_neg (by omega), if_neg (by omega), h.high p (by omega) (by omega)]

theorem RotI.stepB {t : Nat → Nat} {a m b i j : Nat} {d : Array Nat} (h : RotI t a m b i j d) (hi : i ≤ m) (hi0 : 0 < i) (hij : i < j) (hs : m + j ≤ d.size) : RotI t a m b i (j - i) (swpR d (m - i) (m + j - i) i) := by
  have G := swpR_get d (m - i) (m + j - i) i (by omega) (by omega)
  refine ⟨fun p h1 h2 h3 => ?_, fun p h1 h2 => ?_, fun p h1 h2 => ?_⟩
  · rw [G p]
    by_cases c : m + j - i ≤ p ∧ p < m + j - i + i
    · rw [if_neg (by omega), if_pos c, h.high p (by omega) (by omega)]; exact gi (by omega)
    · rw [if_neg (by omega), if_neg c]; exact h.out p h1 h2 (by omega)
  · rw [G, if_neg (by omega), if_neg (by omega), h.low p (by omega) (by omega)]
  · rw [G, if_pos (by omega), h.low p (by omega) (by omega)]; exact gi (by omega)

theorem RotI.stop {t : Nat → Nat} {a m b i : Nat} {d : Array Nat} (h : RotI t a m b i i d) (hi : i ≤ m) (hs : m + i ≤ d.size) (p : Nat) (h1 : a ≤ p) (h2 : p < b) : (swpR d (m - i) m i)[p]! = t p := by
  rw [swpR_get d (m - i) m i (by omega) (by omega) p]
  by_cases c1 : m - i ≤ p ∧ p < m - i + i
  · rw [if_pos c1, h.low p c1.1 c1.2]; exact gi (by omega)
  · by_cases c2 : m ≤ p ∧ p < m + i
    · rw [if_neg c1, if_pos c2, h.high p (by omega) (by omega)]; exact gi (by omega)
    · rw [if_neg c1, if_neg c2]; exact h.out p h1 h2 (by omega)

/-- What d holds behind a turn of [a, b) about m. -/
def rotT (d : Array Nat) (a m b p : Nat) : Nat := if p < a + (b - m) then d[p + (m - a)]! else d[p - (b - m)]!

theorem RotI.start (d : Array Nat) (a m b : Nat) (h1 : a < m) (h2 : m < b) : RotI (rotT d a m b) a m b (m - a) (b - m) d := by
  refine ⟨fun p k1 k2 k3 => by omega, fun p k1 k2 => ?_, fun p k1 k2 => ?_⟩
  · rw [rotT, if_pos (by omega)]
  · rw [rotT, if_neg (by omega)]

set_option maxHeartbeats 4000000 in
set_option maxRecDepth 1000000 in
theorem rotate_any (enc : Nat → Value) (cv : Value) (blk off cap a m b : Nat) (d0 d : Array Nat) (w0 w : World) (R : Row1 enc w0 blk off d0) (hs : d.size = d0.size) (S : SW enc w0 blk off d w)
    (h1 : a < m) (h2 : m < b) (h3 : b ≤ d.size) (hsz : d.size < 1000) :
    Calls Try.prog 41 #[.slice (some ⟨blk, off, none⟩) d.size cap, .int .i64 a, .int .i64 m, .int .i64 b, cv] w fun e w' => e = .returned (.tuple #[]) ∧ ∃ d', SW enc w0 blk off d' w' ∧ PermIn a b d d' ∧ ∀ p, a ≤ p → p < b → d'[p]! = rotT d a m b p := by
  have S0 : Aside (SW enc w0 blk off d w) := S
  have T0 : Aside (RotI (rotT d a m b) a m b (m - a) (b - m) d) := RotI.start d a m b h1 h2
  generalize ht : rotT d a m b = t at T0 ⊢
  have HS : Hid (d.size = d0.size) := hs
  clear ht S hs
  obtain ⟨i0, hi0⟩ : ∃ i0, i0 = m - a := ⟨_, rfl⟩
  obtain ⟨j0, hj0⟩ : ∃ j0, j0 = b - m := ⟨_, rfl⟩
  rw [← hi0, ← hj0] at T0
  have ei : (m : Int) - (a : Int) = (i0 : Int) := by omega
  have ej : (b : Int) - (m : Int) = (j0 : Int) := by omega
  have I0 : Hid (i0 = m - a) := hi0
  have J0 : Hid (j0 = b - m) := hj0
  clear hi0 hj0
  go_enter Try.func41, Try.ntmps41
  go_wp2_with fail
  clear ei ej
  go_loopg [10, 11] (i0 + j0) (fun g v10 v11 wr => ∃ (i j : Nat) (dk : Array Nat), v10 = .int .i64 i ∧ v11 = .int .i64 j ∧ 0 < i ∧ 0 < j ∧ i ≤ i0 ∧ j ≤ j0 ∧ i + j ≤ g ∧ dk.size = d.size ∧ Aside (SW enc w0 blk off dk wr) ∧ Aside (PermIn a b d dk) ∧ Aside (RotI t a m b i j dk))
  case atStart => exact ⟨i0, j0, d, rfl, rfl, by have := I0.out; omega, by have := J0.out; omega, Nat.le_refl _, Nat.le_refl _, Nat.le_refl _, rfl, S0, (show Aside _ from permIn_refl d a b), T0⟩
  case round =>
    clear S0 T0
    obtain ⟨i, j, dk, rfl, rfl, hi, hj, hi1, hj1, hg, hds, S1, P1, T1⟩ := hrel
    have b1 := I0.out
    have b2 := J0.out
    have hs := HS.out
    obtain ⟨mi, hmi⟩ : ∃ mi, m - i = mi := ⟨_, rfl⟩
    have e1 : (m : Int) - (i : Int) = (mi : Int) := by omega
    by_cases heq : i = j
    · subst heq
      have c1 := swapRange_any enc cv blk off cap (m - i) m i d0 dk w0 wr R (by omega) S1.out (by omega) (by omega) (by omega)
      rw [hmi, hds] at c1
      have P2 : Aside (PermIn a b d (swpR dk (m - i) m i)) := permIn_trans _ _ _ _ _ P1.out (swpR_perm dk (m - i) m a b (by omega) (by omega) (by omega) i (by omega))
      have T2 : Aside (∀ p, a ≤ p → p < b → (swpR dk (m - i) m i)[p]! = t p) := fun p k1 k2 => T1.out.stop (by omega) (by omega) p k1 k2
      rw [hmi] at P2 T2
      clear S1 P1 T1 b1 b2 hs hmi
      generalize swpR dk mi m i = dk' at c1 P2 T2
      go_wp2_with (go_at_call 48; with_reducible refine c1.mono ?_; rintro e w1 ⟨rfl, hW⟩)
      go_end0
      exact ⟨rfl, dk', hW, P2.out, T2.out⟩
    · have hne : ¬ ((i : Int) = (j : Int)) := by omega
      by_cases hgt : j < i
      · have y1 : (j : Int) < (i : Int) := by omega
        have c1 := swapRange_any enc cv blk off cap (m - i) m j d0 dk w0 wr R (by omega) S1.out (by omega) (by omega) (by omega)
        rw [hmi, hds] at c1
        obtain ⟨ij, hij⟩ : ∃ ij, i - j = ij := ⟨_, rfl⟩
        have e5 : (i : Int) - (j : Int) = (ij : Int) := by omega
        have P2 : Aside (PermIn a b d (swpR dk (m - i) m j)) := permIn_trans _ _ _ _ _ P1.out (swpR_perm dk (m - i) m a b (by omega) (by omega) (by omega) j (by omega))
        have T2 : Aside (RotI t a m b (i - j) j (swpR dk (m - i) m j)) := T1.out.stepA (by omega) hj hgt (by omega)
        have hds2 : (swpR dk (m - i) m j).size = d.size := by rw [swpR_size]; exact hds
        rw [hmi] at P2 T2 hds2
        rw [hij] at T2
        have g1 : Hid (i - j = ij) := hij
        clear S1 P1 T1 b1 b2 hs hmi hij
        generalize swpR dk mi m j = dk' at c1 P2 T2 hds2
        go_wp2_with (go_at_call 48; with_reducible refine c1.mono ?_; rintro e w1 ⟨rfl, hW⟩)
        go_roundg (ij + j)
        case measure => have := g1.out; omega
        case rel => have := g1.out; exact ⟨ij, j, dk', rfl, rfl, by omega, hj, by omega, hj1, Nat.le_refl _, hds2, hW, P2, T2⟩
      · have y1 : ¬ (j : Int) < (i : Int) := by omega
        have c1 := swapRange_any enc cv blk off cap (m - i) (m + j - i) i d0 dk w0 wr R (by omega) S1.out (by omega) (by omega) (by omega)
        obtain ⟨mj, hmj⟩ : ∃ mj, m + j - i = mj := ⟨_, rfl⟩
        have e2 : (m : Int) + (j : Int) - (i : Int) = (mj : Int) := by omega
        obtain ⟨ij, hij⟩ : ∃ ij, j - i = ij := ⟨_, rfl⟩
        have e5 : (j : Int) - (i : Int) = (ij : Int) := by omega
        have e6 : (m : Int) + (j : Int) ≤ 1000 := by omega
        rw [hmi, hmj, hds] at c1
        have P2 : Aside (PermIn a b d (swpR dk (m - i) (m + j - i) i)) := permIn_trans _ _ _ _ _ P1.out (swpR_perm dk (m - i) (m + j - i) a b (by omega) (by omega) (by omega) i (by omega))
        have T2 : Aside (RotI t a m b i (j - i) (swpR dk (m - i) (m + j - i) i)) := T1.out.stepB (by omega) hi (by omega) (by omega)
        have hds2 : (swpR dk (m - i) (m + j - i) i).size = d.size := by rw [swpR_size]; exact hds
        rw [hmi, hmj] at P2 T2 hds2
        rw [hij] at T2
        have g1 : Hid (j - i = ij) := hij
        clear S1 P1 T1 b1 b2 hs hmi hij hmj
        generalize swpR dk mi mj i = dk' at c1 P2 T2 hds2
        go_wp2_with (go_at_call 48; with_reducible refine c1.mono ?_; rintro e w1 ⟨rfl, hW⟩)
        go_roundg (i + ij)
        case measure => have := g1.out; omega
        case rel => have := g1.out; exact ⟨i, ij, dk', rfl, rfl, hi, by omega, hi1, by omega, Nat.le_refl _, hds2, hW, P2, T2⟩

end Go.Proofs.Ytpiekhiamdknjaa
