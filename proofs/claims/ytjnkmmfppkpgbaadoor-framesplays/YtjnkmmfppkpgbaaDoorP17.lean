/- The document's memory: Same. -/
import Derived.Test.YtjnkmmfppkpgbaaDoorP16
namespace Go.Proofs.YtjnkmmfppkpgbaaDoor
open Go.RowKit Go.Maps
set_option maxRecDepth 10000

theorem strOf_succ (f : Nat → Nat) (n : Nat) : strOf f (n + 1) = (strOf f n).push (UInt8.ofNat (f n)) := by
  unfold strOf
  rw [List.range_succ, List.map_append, List.foldl_append]
  rfl
theorem strOf_data (f : Nat → Nat) : ∀ n, (strOf f n).data.toList = (List.range n).map fun i => UInt8.ofNat (f i)
  | 0 => rfl
  | n + 1 => by
    rw [strOf_succ, List.range_succ, List.map_append, ← strOf_data f n]
    simp [ByteArray.push]
theorem strOf_inj {f g : Nat → Nat} {n : Nat} (hf : Bytes f) (hg : Bytes g) (h : strOf f n = strOf g n) : ∀ i, i < n → f i = g i := fun i hi => by
  have e : (List.range n).map (fun i => UInt8.ofNat (f i)) = (List.range n).map (fun i => UInt8.ofNat (g i)) := by rw [← strOf_data, ← strOf_data, h]
  have e2 := congrArg (fun l => l[i]?) e
  simp [hi] at e2
  have e3 := congrArg UInt8.toNat e2
  simp at e3
  have := hf i
  have := hg i
  omega
theorem strOf_eq {f g : Nat → Nat} {n : Nat} (hf : Bytes f) (hg : Bytes g) : ((strOf f n).toList == (strOf g n).toList) = alike f g n := by
  cases e : alike f g n
  · rw [beq_eq_false_iff_ne]
    intro h
    rw [ByteArray.toList_eq, ByteArray.toList_eq] at h
    have h2 : strOf f n = strOf g n := by
      have : (strOf f n).data = (strOf g n).data := Array.ext' h
      cases hx : strOf f n
      cases hy : strOf g n
      rw [hx, hy] at this
      congr
    rw [alike_of (strOf_inj hf hg h2)] at e
    cases e
  · rw [strOf_like ((alike_iff f g n).1 e)]
    exact beq_self_eq_true _

end Go.Proofs.YtjnkmmfppkpgbaaDoor
