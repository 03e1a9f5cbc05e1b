/- slices.SortStableFunc over fewer than 20 places; Rank, given the sort. -/
import Derived.Test.YtpiekhiamdknjaaH4
namespace Go.Proofs.Ytpiekhiamdknjaa
open Go.RowKit Go.Sort Go.Shelf Go.Lib

/-- What the sort gives of the places 0 to n - 1. -/
def SortC (n : Nat) : Prop := ∀ (w0 : World) (bb hb ho cap : Nat) (A B : Nat → Nat) (h : Nat → Int × Int) (blk off c : Nat), RW w0 bb hb ho n cap A B h blk → Row1 (encN n) w0 blk off (Array.range n) →
  Calls Try.prog 22 #[.slice (some ⟨blk, off, none⟩) n c, cmpV bb] w0 fun e w' => e = .returned (.tuple #[]) ∧ ∃ d', PermIn 0 n (Array.range n) d' ∧ SortedIn (T (ltN n h)) 0 n d' ∧ SW (encN n) w0 blk off d' w'
def StabC (n : Nat) : Prop := ∀ (w0 : World) (bb hb ho cap : Nat) (A B : Nat → Nat) (h : Nat → Int × Int) (blk off c : Nat), RW w0 bb hb ho n cap A B h blk → Row1 (encN n) w0 blk off (Array.range n) →
  Calls Try.prog 29 #[.slice (some ⟨blk, off, none⟩) n c, .int .i64 n, cmpV bb] w0 fun e w' => e = .returned (.tuple #[]) ∧ ∃ d', PermIn 0 n (Array.range n) d' ∧ SortedIn (T (ltN n h)) 0 n d' ∧ SW (encN n) w0 blk off d' w'

set_option maxHeartbeats 400000 in
theorem SortC_of {n : Nat} (hS : StabC n) : SortC n := by
  intro w0 bb hb ho cap A B h blk off c R R1
  have c1 := hS w0 bb hb ho cap A B h blk off c R R1
  clear R R1 hS
  unfold cmpV at *
  go_enter Try.func22, Try.ntmps22
  go_wp2_with (go_at_call 29; with_reducible refine c1.mono ?_; rintro e w1 ⟨rfl, d', hP, hT, hW⟩)
  go_end0
  exact ⟨rfl, d', hP, hT, hW⟩

theorem range_get (n i : Nat) (h : i < n) : (Array.range n)[i]! = i := by
  rw [getElem!_pos (Array.range n) i (by simpa using h)]; simp
theorem range_inc (n p q : Nat) (h : p < q) (h' : q < n) : (Array.range n)[p]! < (Array.range n)[q]! := by
  rw [range_get n p (by omega), range_get n q h']; exact h

set_option maxHeartbeats 1000000 in
theorem stab_small (n : Nat) (hn : n < 20) : StabC n := by
  intro w0 bb hb ho cap A B h blk off c R R1
  have c1 := ins_any R off c 0 n (Array.range n) (Array.range n) w0 R1 (by simp) (by simp) (SW.start R1.hH) (Nat.zero_le _) (Nat.le_refl _) (by omega) (fun p q _ h2 h3 => range_inc n p q h2 h3)
  change Calls Try.prog 34 #[_, .int .i64 (0 : Int), _, _] _ _ at c1
  have z1 : ¬ (20 : Int) ≤ n := by omega
  have z2 : ¬ (20 : Int) < n := by omega
  clear R R1
  unfold cmpV at *
  go_enter Try.func29, Try.ntmps29
  go_wp2_with fail
  refine wp_loop_rounds 1 ?_
  rw [rounds_succ]
  go_wp2_with (go_at_call 34; with_reducible refine c1.mono ?_; rintro e w1 ⟨rfl, d', hP, hT, hW⟩)
  refine wp_loop_rounds 1 ?_
  rw [rounds_succ]
  go_wp2_with fail
  go_end0
  exact ⟨rfl, d', hP, hT, hW⟩

end Go.Proofs.Ytpiekhiamdknjaa
