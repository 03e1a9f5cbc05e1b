/- The document's check; numbers in bytes: Get, the program's and the document's. -/
import Derived.Test.YtpjlmmiceiionaaDoorB2
namespace Go.Proofs.YtpjlmmiceiionaaDoor
open Go.RowKit
set_option maxRecDepth 10000

def Bytes (f : Nat → Nat) : Prop := ∀ i, f i < 256
/-- m bytes lie in w in the block b from o on, and may be written. -/
structure BS (w : World) (b o m : Nat) (f : Nat → Nat) : Prop where
  lt : b < w.heap.size
  cell : ∀ i, i < m → w.cell? ⟨b, o + i, none⟩ = some (.int .u8 (f i : Nat))
  frz : ∀ i, i < m → w.frozen? ⟨b, o + i, none⟩ = false
  byte : Bytes f
theorem BS.kp {w w' : World} {b o m : Nat} {f : Nat → Nat} (h : BS w b o m f) (g : Kp w w') : BS w' b o m f :=
  ⟨Nat.lt_of_lt_of_le h.lt g.size, fun i hi => by rw [g.cell (p := ⟨b, o + i, none⟩) h.lt]; exact h.cell i hi, fun i hi => by rw [g.frz (p := ⟨b, o + i, none⟩) h.lt]; exact h.frz i hi, h.byte⟩
/-- f with v at p. -/
def upd (f : Nat → Nat) (p v : Nat) : Nat → Nat := fun i => if i = p then v else f i
theorem upd_same (f : Nat → Nat) (p v : Nat) : upd f p v p = v := if_pos rfl
theorem upd_other (f : Nat → Nat) (p v i : Nat) (h : i ≠ p) : upd f p v i = f i := if_neg h
theorem Bytes.upd {f : Nat → Nat} (h : Bytes f) (p v : Nat) (hv : v < 256) : Bytes (upd f p v) := fun i => by
  unfold Go.Proofs.YtpjlmmiceiionaaDoor.upd; split
  · exact hv
  · exact h i
theorem BS.set {w : World} {b o m : Nat} {f : Nat → Nat} (h : BS w b o m f) (p v : Nat) (hp : p < m) (hv : v < 256) : BS (w.setCell ⟨b, o + p, none⟩ (.int .u8 (v : Nat))) b o m (upd f p v) :=
  ⟨by rw [World.size_setCell]; exact h.lt, fun i hi => by
    by_cases e : i = p
    · subst e
      rw [World.cell?_setCell_same _ _ _ (h.cell i hi)]; simp [upd]
    · rw [World.cell?_setCell_other _ _ _ _ (by intro z; simp only [Addr.mk.injEq] at z; omega)]; simp only [upd, if_neg e]; exact h.cell i hi, fun i hi => by rw [World.frozen?_setCell]; exact h.frz i hi, h.byte.upd p v hv⟩
theorem BS.less {w : World} {b o m n : Nat} {f : Nat → Nat} (h : BS w b o m f) (hn : n ≤ m) : BS w b o n f := ⟨h.lt, fun i hi => h.cell i (by omega), fun i hi => h.frz i (by omega), h.byte⟩
theorem BS.like {w : World} {b o m : Nat} {f g : Nat → Nat} (h : BS w b o m f) (hg : ∀ i, i < m → g i = f i) (hb : Bytes g) : BS w b o m g := ⟨h.lt, fun i hi => by rw [hg i hi]; exact h.cell i hi, h.frz, hb⟩

/-- The number of the k bytes of f from p on, the lowest first. -/
def numb (f : Nat → Nat) (p : Nat) : Nat → Nat
  | 0 => 0
  | k + 1 => numb f p k + f (p + k) * 2 ^ (8 * k)
theorem numb_lt {f : Nat → Nat} (h : Bytes f) (p : Nat) : ∀ k, numb f p k < 2 ^ (8 * k)
  | 0 => by simp [numb]
  | k + 1 => by
    have h1 := numb_lt h p k
    have h2 : f (p + k) * 2 ^ (8 * k) ≤ 255 * 2 ^ (8 * k) := Nat.mul_le_mul_right _ (by have := h (p + k); omega)
    have h3 : 2 ^ (8 * (k + 1)) = 256 * 2 ^ (8 * k) := by rw [show 8 * (k + 1) = 8 + 8 * k by omega, Nat.pow_add]
    unfold numb; omega
theorem pow64 {k : Nat} (h : k ≤ 8) : 2 ^ (8 * k) ≤ 18446744073709551616 := Nat.pow_le_pow_right (n := 2) (by decide) (show 8 * k ≤ 64 by omega)

theorem or_step (f : Nat → Nat) (p k : Nat) (hb : Bytes f) (hk : k < 8) :
    IntKind.u64.wrap ((f (p + k) : Int) * 2 ^ (8 * k)) = ((f (p + k) * 2 ^ (8 * k) : Nat) : Int) ∧ bits .or .u64 (numb f p k : Nat) ((f (p + k) * 2 ^ (8 * k) : Nat) : Int) = (numb f p (k + 1) : Nat) := by
  have h1 := numb_lt hb p k
  have h2 := numb_lt hb p (k + 1)
  have h3 := pow64 (show k + 1 ≤ 8 by omega)
  have e : numb f p (k + 1) = numb f p k + f (p + k) * 2 ^ (8 * k) := rfl
  refine ⟨shl_mod (by omega), ?_⟩
  rw [u64_or_nat _ _ (by omega) (by omega)]
  have := Nat.shiftLeft_add_eq_or_of_lt h1 (f (p + k))
  rw [Nat.shiftLeft_eq] at this
  rw [Nat.or_comm, ← this, Nat.add_comm, e]

theorem numb_low (f : Nat → Nat) : ∀ (j q : Nat), numb f q (j + 1) = numb f (q + 1) j * 256 + f q
  | 0, q => by simp [numb]
  | j + 1, q => by
    have ih := numb_low f j q
    have e : numb f q (j + 1 + 1) = numb f q (j + 1) + f (q + (j + 1)) * 2 ^ (8 * (j + 1)) := rfl
    have e2 : numb f (q + 1) (j + 1) = numb f (q + 1) j + f (q + 1 + j) * 2 ^ (8 * j) := rfl
    rw [e, ih, e2, show 8 * (j + 1) = 8 * j + 8 by omega, Nat.pow_add, show (2 : Nat) ^ 8 = 256 from rfl, show q + 1 + j = q + (j + 1) by omega, Nat.add_mul, Nat.mul_assoc]
    omega

end Go.Proofs.YtpjlmmiceiionaaDoor
