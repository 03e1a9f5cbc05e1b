/- DigestFollows: Change follows a page. -/
import Derived.Test.YtcejdeafdlbheaaD8
namespace Go.Proofs.Ytcejdeafdlbheaa
open Go.RowKit

/-- In W lie the page f (in the block b) and, elsewhere, the word u; and all that lay in w. -/
structure FSt (w W : World) (b wb wo u : Nat) (f : Nat → Nat) : Prop where
  bs : BS W b 0 4096 f
  kp : Kp w W
  cell : W.cell? ⟨wb, wo, none⟩ = some (.int .u64 (u : Nat))
  ne : wb ≠ b
  new : w.heap.size ≤ b
theorem FSt.set {w W : World} {b wb wo u : Nat} {f : Nat → Nat} (h : FSt w W b wb wo u f) (p v : Nat) (hp : p < 4096) (hv : v < 256) :
    FSt w (W.setCell ⟨b, p, none⟩ (.int .u8 (v : Nat))) b wb wo u (upd f p v) := by
  have h1 := h.bs.set p v hp hv
  rw [Nat.zero_add] at h1
  exact ⟨h1, h.kp.set _ _ h.new, by rw [World.cell?_setCell_other _ _ _ _ (by intro z; simp only [Addr.mk.injEq] at z; exact h.ne z.1.symm)]; exact h.cell, h.ne, h.new⟩
theorem FSt.facts {w W : World} {b wb wo u : Nat} {f : Nat → Nat} (h : FSt w W b wb wo u f) (p : Nat) (hp : p < 4096) :
    W.cell? ⟨b, p, none⟩ = some (.int .u8 (f p : Nat)) ∧ W.frozen? ⟨b, p, none⟩ = false ∧ W.cell? ⟨wb, wo, none⟩ = some (.int .u64 (u : Nat)) := by
  have h1 := h.bs.cell p hp
  have h2 := h.bs.frz p hp
  rw [Nat.zero_add] at h1 h2
  exact ⟨h1, h2, h.cell⟩

/-- The page f with the word u at k. -/
def put (f : Nat → Nat) (k u : Nat) : Nat → Nat :=
  upd (upd (upd (upd (upd (upd (upd (upd f (8 * k + 0) (u % 256)) (8 * k + 1) (u / 256 % 256)) (8 * k + 2) (u / 65536 % 256)) (8 * k + 3) (u / 16777216 % 256)) (8 * k + 4) (u / 4294967296 % 256)) (8 * k + 5) (u / 1099511627776 % 256)) (8 * k + 6) (u / 281474976710656 % 256)) (8 * k + 7) (u / 72057594037927936 % 256)

theorem upd_same (f : Nat → Nat) (p v : Nat) : upd f p v p = v := by simp [upd]
theorem upd_other (f : Nat → Nat) (p v q : Nat) (h : q ≠ p) : upd f p v q = f q := by simp [upd, h]

theorem put_at (f : Nat → Nat) (k u : Nat) (hu : u < 18446744073709551616) : lo (put f k u) k = u % 4294967296 ∧ hi (put f k u) k = u / 4294967296 := by
  unfold lo hi put
  simp only [upd]
  simp
  omega
theorem put_off (f : Nat → Nat) (k u j : Nat) (h : j ≠ k) : lo (put f k u) j = lo f j ∧ hi (put f k u) j = hi f j := by
  have e : ∀ x y, x < 8 → y < 8 → ¬ 8 * j + x = 8 * k + y := by intro x y h1 h2; omega
  have e0 : ∀ y, y < 8 → ¬ 8 * j = 8 * k + y := by intro y h2; omega
  unfold lo hi put
  have e1 := fun x y h1 h2 => e x y h1 h2
  constructor <;> (simp only [upd]; repeat rw [if_neg (by omega)])

theorem follow_sum {f : Nat → Nat} (k u : Nat) (hk : k < 512) (hu : u < 18446744073709551616) :
    sre (put f k u) 512 = sre f 512 + tre (k % 4) (((u % 4294967296 : Nat) : Int) - (lo f k : Nat)) (((u / 4294967296 : Nat) : Int) - (hi f k : Nat)) ∧
    sim (put f k u) 512 = sim f 512 + tim (k % 4) (((u % 4294967296 : Nat) : Int) - (lo f k : Nat)) (((u / 4294967296 : Nat) : Int) - (hi f k : Nat)) := by
  have h1 := sre_other (f := f) (g := put f k u) (k := k) (fun j hj => put_off f k u j hj) 512
  have h2 := sim_other (f := f) (g := put f k u) (k := k) (fun j hj => put_off f k u j hj) 512
  rw [if_pos hk, (put_at f k u hu).1, (put_at f k u hu).2] at h1 h2
  rw [tre_sub, tim_sub]
  exact ⟨h1, h2⟩

end Go.Proofs.Ytcejdeafdlbheaa
