/- DigestLikes: a word more here and the same less four places on leaves the sum. -/
import Derived.Test.YtcejdeafdlbheaaD11
import Derived.Test.YtcejdeafdlbheaaMask
namespace Go.Proofs.Ytcejdeafdlbheaa
open Go.RowKit

theorem BS.set_other {w : World} {b b' o m : Nat} {f : Nat → Nat} (h : BS w b o m f) (p : Nat) (v : Value) (hb : b' ≠ b) : BS (w.setCell ⟨b', p, none⟩ v) b o m f :=
  ⟨by rw [World.size_setCell]; exact h.lt, fun i hi => by rw [World.cell?_setCell_other _ _ _ _ (by intro z; simp only [Addr.mk.injEq] at z; exact hb z.1)]; exact h.cell i hi, fun i hi => by rw [World.frozen?_setCell]; exact h.frz i hi, h.byte⟩

theorem upd_lo (f : Nat → Nat) (j v : Nat) : lo (upd f (8 * j + 3) v) j + 16777216 * f (8 * j + 3) = lo f j + 16777216 * v ∧ hi (upd f (8 * j + 3) v) j = hi f j := by
  unfold lo hi upd
  simp
  omega
theorem upd_off (f : Nat → Nat) (j v i : Nat) (h : i ≠ j) : lo (upd f (8 * j + 3) v) i = lo f i ∧ hi (upd f (8 * j + 3) v) i = hi f i := by
  unfold lo hi
  constructor <;> (simp only [upd]; repeat rw [if_neg (by omega)])

theorem upd_sum (f : Nat → Nat) (j v : Nat) (hj : j < 512) :
    sre (upd f (8 * j + 3) v) 512 = sre f 512 + tre (j % 4) (16777216 * ((v : Int) - f (8 * j + 3))) 0 ∧ sim (upd f (8 * j + 3) v) 512 = sim f 512 + tim (j % 4) (16777216 * ((v : Int) - f (8 * j + 3))) 0 := by
  have h1 := sre_other (f := f) (g := upd f (8 * j + 3) v) (k := j) (fun i hi => upd_off f j v i hi) 512
  have h2 := sim_other (f := f) (g := upd f (8 * j + 3) v) (k := j) (fun i hi => upd_off f j v i hi) 512
  obtain ⟨e1, e2⟩ := upd_lo f j v
  rw [if_pos hj, e2, ← tre_sub] at h1
  rw [if_pos hj, e2, ← tim_sub] at h2
  have e3 : ((lo (upd f (8 * j + 3) v) j : Nat) : Int) - (lo f j : Nat) = 16777216 * ((v : Int) - f (8 * j + 3)) := by omega
  rw [e3, Int.sub_self] at h1 h2
  exact ⟨h1, h2⟩

/-- The page before and behind the second change. -/
def base2 (f : Nat → Nat) (k F : Nat) : Nat → Nat := upd (upd f (8 * k + 3) 0) (8 * (k + F) + 3) 100
def next2 (f : Nat → Nat) (k F n : Nat) : Nat → Nat := upd (upd (base2 f k F) (8 * k + 3) n) (8 * (k + F) + 3) (100 - n)

theorem likes_sum (f : Nat → Nat) (k F n : Nat) (hk : k < 256) (h1 : 1 ≤ F) (h2 : F ≤ 200) (hn : 1 ≤ n) (hn2 : n ≤ 16) :
    (sre (base2 f k F) 512 = sre (next2 f k F n) 512 ∧ sim (base2 f k F) 512 = sim (next2 f k F n) 512) ↔ F % 4 = 0 := by
  have a1 := upd_sum (base2 f k F) k n (by omega)
  have a2 := upd_sum (upd (base2 f k F) (8 * k + 3) n) (k + F) (100 - n) (by omega)
  have v1 : base2 f k F (8 * k + 3) = 0 := by unfold base2; rw [upd_other _ _ _ _ (by omega), upd_same]
  have v2 : upd (base2 f k F) (8 * k + 3) n (8 * (k + F) + 3) = 100 := by rw [upd_other _ _ _ _ (by omega)]; unfold base2; rw [upd_same]
  rw [v1] at a1
  rw [v2, a1.1, a1.2] at a2
  unfold next2
  rw [a2.1, a2.2]
  have e1 : (16777216 * ((n : Int) - (0 : Nat))) = 16777216 * n := by omega
  have e2 : (16777216 * (((100 - n : Nat) : Int) - (100 : Nat))) = -(16777216 * n) := by omega
  rw [e1, e2]
  generalize sre (base2 f k F) 512 = A
  generalize sim (base2 f k F) 512 = B
  obtain ⟨N, hN⟩ : ∃ N : Int, N = 16777216 * n := ⟨_, rfl⟩
  have hN0 : 0 < N := by omega
  rw [← hN]
  clear hN e1 e2 a1 a2 v1 v2
  have c1 : k % 4 = 0 ∨ k % 4 = 1 ∨ k % 4 = 2 ∨ k % 4 = 3 := by omega
  have c2 : F % 4 = 0 ∨ F % 4 = 1 ∨ F % 4 = 2 ∨ F % 4 = 3 := by omega
  have c3 : (k + F) % 4 = (k % 4 + F % 4) % 4 := by omega
  rcases c1 with c | c | c | c <;> rcases c2 with d | d | d | d <;> (rw [c3, c, d]; simp [tre, tim]; try omega)

end Go.Proofs.Ytcejdeafdlbheaa
