/- The document's memory: Read, Clear, Get, Same. -/
import Derived.Test.YtjnkmmfppkpgbaaDoorP14
import Derived.RegionTactic
import Derived.BigRegion
namespace Go.Proofs.YtjnkmmfppkpgbaaDoor
open Go.RowKit Go.Maps
set_option maxRecDepth 10000

theorem Good.len {N : Nat} {F : Nat → Nat → Nat} {L : List (Nat × Nat)} (h : Good N F L) (hN : N ≤ 1048576) : L.length ≤ 4294967296 := by
  have := tidy_len h.tidy
  omega
theorem RMat.tick {w : World} {T : Nat → Prop} {q N ops : Nat} {na : Option Addr} {cap : Nat} {L : List (Nat × Nat)} (h : RMat w T q N ops na cap L) : RMat (w.setCell ⟨q, 2, none⟩ (.int .i64 ((ops : Int) + 1))) T q N (ops + 1) na cap L ∧ Fr T w (w.setCell ⟨q, 2, none⟩ (.int .i64 ((ops : Int) + 1))) := by
  have k : Fr (· = q) w (w.setCell ⟨q, 2, none⟩ (.int .i64 ((ops : Int) + 1))) := (Fr.refl _ w).set _ _ rfl
  refine ⟨⟨fun i hi => by rw [World.size_setCell]; exact h.own i hi, h.sq, ?_, h.sl.fr k (fun g hg => (h.blk g hg).2), h.blk, h.n1, h.n2⟩, k.mono (fun i _ hi => by rw [hi]; exact h.sq)⟩
  rw [heap_setCell_same w q 2 _ _ _ h.row]
  simp

end Go.Proofs.YtjnkmmfppkpgbaaDoor
