/- The document's tlb: at, Find. -/
import Derived.Test.YtheahkfgmbmdcaaT5
import Derived.Deep.CutBlock
import Derived.Deep.DeepCutAuto
namespace Go.Proofs.Ytheahkfgmbmdcaa
open Go.RowKit
set_option maxRecDepth 10000

/-- The document's TLB at b: s sets of k ways, its places lie in the block g. -/
structure TR (w : World) (b g s k : Nat) (T : Nat → PC) : Prop where
  c0 : w.cell? ⟨b, 0, none⟩ = some (.int .i64 (s : Int))
  c1 : w.cell? ⟨b, 1, none⟩ = some (.int .i64 (k : Int))
  c2 : w.cell? ⟨b, 2, none⟩ = some (.slice (some ⟨g, 0, none⟩) (s * k) (s * k))
  row : PR w g (s * k) T
  bl : b < w.heap.size
  ne : b ≠ g
  s0 : 1 ≤ s
  s1 : s ≤ 64
  k0 : 1 ≤ k
  k1 : k ≤ 8
section
variable {w w' : World} {b g s k : Nat} {T : Nat → PC}
theorem TR.fr (h : TR w b g s k T) {S : Nat → Prop} (f : Fr S w w') (h1 : ¬ S b) (h2 : ¬ S g) : TR w' b g s k T :=
  ⟨(f.cell (a := ⟨b, 0, none⟩) h.bl h1).trans h.c0, (f.cell (a := ⟨b, 1, none⟩) h.bl h1).trans h.c1, (f.cell (a := ⟨b, 2, none⟩) h.bl h1).trans h.c2, h.row.fr f h2, Nat.lt_of_lt_of_le h.bl f.size, h.ne, h.s0, h.s1, h.k0, h.k1⟩
theorem TR.kp (h : TR w b g s k T) (f : Kp w w') : TR w' b g s k T := h.fr (f.fr (fun _ => False)) id id
theorem TR.n1 (h : TR w b g s k T) : s * k ≤ 512 := Nat.le_trans (Nat.mul_le_mul h.s1 h.k1) (by decide)
theorem TR.put (h : TR w b g s k T) (i : Nat) (hi : i < s * k) (c : PC) : TR (putR w g (i * 12) (encP c)) b g s k (updP T i c) := by
  have f := putR_fr w g (i * 12) (encP c)
  exact ⟨(f.cell (a := ⟨b, 0, none⟩) h.bl h.ne).trans h.c0, (f.cell (a := ⟨b, 1, none⟩) h.bl h.ne).trans h.c1, (f.cell (a := ⟨b, 2, none⟩) h.bl h.ne).trans h.c2, h.row.put i hi c, Nat.lt_of_lt_of_le h.bl f.size, h.ne, h.s0, h.s1, h.k0, h.k1⟩
end
theorem keyB_eq (i a : Int) (v : Nat) (on : Bool) (l : LN) : keyB i a v ⟨on, l⟩ = (on && ((l.i == i) && ((l.a == a) && ((l.v : Int) == (v : Int))))) := by
  cases on
  · rfl
  · rw [Bool.eq_iff_iff, keyB_iff]
    simp
    omega
/-- Where the line of a name is, among all places; -1: nowhere. -/
def atI (T : Nat → PC) (N : Nat) (i a : Int) (v : Nat) : Int := sr (fun j => keyB i a v (T j)) N 0

section
variable {w : World} {b g s k : Nat} {T : Nat → PC}
set_option maxHeartbeats 4000000 in
theorem rat_any (h : TR w b g s k T) (i a : Int) (v : Nat) :
    Calls Try.prog 31 #[.pointer (some ⟨b, 0, none⟩), .int .i64 i, .int .i64 a, .int .u64 (v : Int)] w fun e w' => e = .returned (.int .i64 (atI T (s * k) i a v)) ∧ Kp w w' := by
  have n1 := h.n1
  obtain ⟨z, hz⟩ : ∃ z, atI T (s * k) i a v = z := ⟨_, rfl⟩
  rw [hz]
  obtain ⟨N, hN⟩ : ∃ N, s * k = N := ⟨_, rfl⟩
  have HT : Hid (TR w b g s k T ∧ s * k = N ∧ sr (fun j => keyB i a v (T j)) N 0 = z) := ⟨h, hN, by rw [← hN]; exact hz⟩
  rw [hN] at n1
  clear h hN hz
  have y2 : (N : Int) ≤ 512 := by omega
  go_enter Try.func31, Try.ntmps31
  go_wp2_with fail
  go_loopg [9] N (fun gk v9 wr => ∃ n : Nat, v9 = .int .i64 (n : Int) ∧ n ≤ N ∧ N - n ≤ gk ∧ Hid (sr (fun j => keyB i a v (T j)) (N - n) n = z) ∧ Hid (Kp w wr))
  case atStart => exact ⟨0, rfl, by omega, by omega, HT.out.2.2, Kp.refl w⟩
  case round =>
    obtain ⟨n, rfl, n2, hg, HZ, HK⟩ := hrel
    have T2 := HT.out.1.kp HK.out
    have c2 := T2.c2
    rw [HT.out.2.1] at c2
    by_cases hn : n < N
    · have y1 : (n : Int) < N := by omega
      have cc : ∀ m y, (encP (T n))[m]? = some y → wr.cell? ⟨g, n * 12 + m, none⟩ = some y := fun m y hy => T2.row.cell n m y (by rw [HT.out.2.1]; exact hn) hy
      have hs : (if keyB i a v (T n) = true then (n : Int) else sr (fun j => keyB i a v (T j)) (N - (n + 1)) (n + 1)) = z := by
        have := HZ.out
        rw [show N - n = (N - (n + 1)) + 1 by omega] at this
        exact this
      obtain ⟨C, hC⟩ : ∃ C, T n = C := ⟨_, rfl⟩
      rw [hC] at cc hs
      clear hC
      obtain ⟨on, l⟩ := C
      rw [keyB_eq] at hs
      have o0 := cc 0 _ rfl
      have o1 := cc 1 _ rfl
      have o2 := cc 2 _ rfl
      have o3 := cc 3 _ rfl
      have o4 := cc 4 _ rfl
      have o5 := cc 5 _ rfl
      have o6 := cc 6 _ rfl
      have o7 := cc 7 _ rfl
      have o8 := cc 8 _ rfl
      have o9 := cc 9 _ rfl
      have o10 := cc 10 _ rfl
      have o11 := cc 11 _ rfl
      simp only [Nat.add_zero] at o0
      clear cc T2
      have HK2 : Hid (∀ o, Kp w (wr.alloc o)) := fun o => HK.out.alloc o
      cases on
      · have HZ2 : Hid (sr (fun j => keyB i a v (T j)) (N - (n + 1)) (n + 1) = z) := by rwa [if_neg (by simp)] at hs
        clear hs HZ HK

        go_wp2_with fail
        go_roundg (N - (n + 1))
        case measure => omega
        case rel => exact ⟨n + 1, by go_num, by omega, by omega, HZ2, HK2.out _⟩
      obtain ⟨b1, h1⟩ : ∃ b1, (l.i == i) = b1 := ⟨_, rfl⟩
      rw [h1] at hs
      cases b1
      · have HZ2 : Hid (sr (fun j => keyB i a v (T j)) (N - (n + 1)) (n + 1) = z) := by rwa [if_neg (by simp)] at hs
        clear hs HZ HK

        go_wp2_with fail
        go_roundg (N - (n + 1))
        case measure => omega
        case rel => exact ⟨n + 1, by go_num, by omega, by omega, HZ2, HK2.out _⟩
      obtain ⟨b2, h2⟩ : ∃ b2, (l.a == a) = b2 := ⟨_, rfl⟩
      rw [h2] at hs
      cases b2
      · have HZ2 : Hid (sr (fun j => keyB i a v (T j)) (N - (n + 1)) (n + 1) = z) := by rwa [if_neg (by simp)] at hs
        clear hs HZ HK

        go_wp2_with fail
        go_roundg (N - (n + 1))
        case measure => omega
        case rel => exact ⟨n + 1, by go_num, by omega, by omega, HZ2, HK2.out _⟩
      obtain ⟨b3, h3⟩ : ∃ b3, ((l.v : Int) == (v : Int)) = b3 := ⟨_, rfl⟩
      rw [h3] at hs
      cases b3
      · have HZ2 : Hid (sr (fun j => keyB i a v (T j)) (N - (n + 1)) (n + 1) = z) := by rwa [if_neg (by simp)] at hs
        have h4 : ¬ l.v = v := by have : ¬ (l.v : Int) = (v : Int) := by simpa using h3
                                  omega
        have h5 : (l.v == v) = false := by simpa using h4
        clear hs HZ HK

        go_wp2_with fail
        go_roundg (N - (n + 1))
        case measure => omega
        case rel => exact ⟨n + 1, by go_num, by omega, by omega, HZ2, HK2.out _⟩
      · have h4 : l.v = v := by have : (l.v : Int) = (v : Int) := by simpa using h3
                                omega
        have h5 : (l.v == v) = true := by simpa using h4
        have hz : (n : Int) = z := by rwa [if_pos (by simp)] at hs
        subst hz
        have h3' := h3
        clear hs HZ HK h4
        go_wp2
        go_ret
        exact ⟨rfl, HK2.out _⟩
    · have en : n = N := by omega
      have hz : (-1 : Int) = z := by
        have := HZ.out
        rw [show N - n = 0 by omega] at this
        exact this
      subst en hz
      clear T2
      go_wp2
      go_ret
      exact ⟨rfl, HK.out⟩
end

end Go.Proofs.Ytheahkfgmbmdcaa
