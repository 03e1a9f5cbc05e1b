/- Joined: SQ, CA. -/
import Derived.Test.YtpjlmmiceiionaaDoorB4
import Derived.Test.YtpjlmmiceiionaaDoorP1
import Derived.Test.YtpjlmmiceiionaaDoorJ06
import Derived.Test.YtpjlmmiceiionaaDoorD14
import Derived.Test.YtpjlmmiceiionaaDoorP6
/- Bytes as strings: alike just where their texts are. -/
namespace Go.Proofs.YtpjlmmiceiionaaDoor
open Go.RowKit Go.Maps

theorem strOf_succ (f : Nat → Nat) (n : Nat) : strOf f (n + 1) = (strOf f n).push (UInt8.ofNat (f n)) := by
  unfold strOf
  rw [List.range_succ, List.map_append, List.foldl_append]
  rfl
theorem strOf_data (f : Nat → Nat) : ∀ n, (strOf f n).data.toList = (List.range n).map fun i => UInt8.ofNat (f i)
  | 0 => rfl
  | n + 1 => by
    rw [strOf_succ, List.range_succ, List.map_append, ← strOf_data f n]
    simp [ByteArray.push]
theorem strOf_inj {f g : Nat → Nat} {n : Nat} (hf : Bytes f) (hg : Bytes g) (h : strOf f n = strOf g n) : ∀ i, i < n → f i = g i := fun i hi => by
  have e : (List.range n).map (fun i => UInt8.ofNat (f i)) = (List.range n).map (fun i => UInt8.ofNat (g i)) := by rw [← strOf_data, ← strOf_data, h]
  have e2 := congrArg (fun l => l[i]?) e
  simp [hi] at e2
  have e3 := congrArg UInt8.toNat e2
  simp at e3
  have := hf i
  have := hg i
  omega
theorem strOf_eq {f g : Nat → Nat} {n : Nat} (hf : Bytes f) (hg : Bytes g) : ((strOf f n).toList == (strOf g n).toList) = alike f g n := by
  cases e : alike f g n
  · rw [beq_eq_false_iff_ne]
    intro h
    rw [ByteArray.toList_eq, ByteArray.toList_eq] at h
    have h2 : strOf f n = strOf g n := by
      have : (strOf f n).data = (strOf g n).data := Array.ext' h
      cases hx : strOf f n
      cases hy : strOf g n
      rw [hx, hy] at this
      congr
    rw [alike_of (strOf_inj hf hg h2)] at e
    cases e
  · rw [strOf_like ((alike_iff f g n).1 e)]
    exact beq_self_eq_true _

end Go.Proofs.YtpjlmmiceiionaaDoor

/- index: pages' digests as keys; pages byte by byte. -/
namespace Go.Proofs.YtpjlmmiceiionaaDoor
open Go.RowKit Go.Maps
set_option maxRecDepth 10000

/-- A page's digest. -/
def dgt (h : Nat → Nat) : CN := (sre h 512, sim h 512)
theorem dgt_ok {h : Nat → Nat} (hb : Bytes h) : okC (dgt h) := ⟨by have := sre_le hb 512; show (sre h 512).natAbs < _; omega, by have := sim_le hb 512; show (sim h 512).natAbs < _; omega⟩
theorem dgof_any (b o cap : Nat) (f : Nat → Nat) (w : World) (H : BS w b o 4096 f) (hcap : 4096 ≤ cap) :
    Calls Tryd.prog 27 #[.slice (some ⟨b, o, none⟩) 4096 cap] w fun e w' => e = .returned (.tuple #[cK (dgt f), .int .i64 0]) ∧ w' = w :=
  (of_any b o cap f w H hcap).mono fun e w' ⟨re, im, h1, h2, h3, h4⟩ => by
    have hk := dgt_ok H.byte
    rw [h1, FC_fl h2 hk.1, FC_fl h3 hk.2]
    exact ⟨rfl, h4⟩
theorem dgof_no (na : Option Addr) (m cap : Nat) (w : World) (h : m < 4096) :
    Calls Tryd.prog 27 #[.slice na m cap] w fun e w' => e = .returned (.tuple #[cK (0, 0), .int .i64 1]) ∧ w' = w :=
  (of_refuses na m cap w h).mono fun e w' ⟨h1, h2⟩ => ⟨by rw [h1]; unfold cK; rw [show flC (0 : Int) = 0 from by decide], h2⟩
theorem rdof_any (b cap : Nat) (f : Nat → Nat) (w : World) (H : BS w b 0 4096 f) :
    Calls Tryd.prog 31 #[.slice (some ⟨b, 0, none⟩) 4096 cap] w fun e w' => e = .returned (.tuple #[cK (dgt f), .int .i64 0]) ∧ w' = w := rof_any b cap f w H

set_option maxHeartbeats 1000000 in
theorem beq_any (b cb d cd n : Nat) (f g : Nat → Nat) (w : World) (H1 : BS w b 0 n f) (H2 : BS w d 0 n g) :
    Calls Tryd.prog 57 #[.slice (some ⟨b, 0, none⟩) n cb, .slice (some ⟨d, 0, none⟩) n cd] w fun e w' => e = .returned (.bool (alike f g n)) ∧ w' = w := by
  have s1 := string_any w b 0 n cb f H1.cells
  have s2 := string_any w d 0 n cd g H2.cells
  have se := strOf_eq (n := n) H1.byte H2.byte
  clear H1 H2
  generalize strOf f n = x at *
  generalize strOf g n = y at *
  go_enter Tryd.func57, Tryd.ntmps57
  go_wp2
  go_ret
  exact ⟨by first | rfl | (rw [← se]; rfl), rfl⟩

end Go.Proofs.YtpjlmmiceiionaaDoor
