/- tlb: New. -/
import Derived.Test.YtclcickhgoiooaaT2
namespace Go.Proofs.Ytclcickhgoiooaa
open Go.RowKit
set_option maxRecDepth 10000

theorem info_place : ∃ i, Try.prog.info? 113 = some i ∧ i.zero = some (pcV zP) ∧ i.size = 12 ∧ i.bytes = 56 := by
  have h : (Try.prog.info? 113).map (fun i => (i.zero, i.size, i.bytes)) = some (some (pcV zP), 12, 56) := by kernel_rfl
  obtain ⟨i, hi, e⟩ := Option.map_eq_some_iff.1 h
  simp only [Prod.mk.injEq] at e
  exact ⟨i, hi, e.1, e.2.1, e.2.2⟩
def offP (n : Nat) : Array Value := madeCells (pcV zP).cells (n * 12)
theorem offP_get (n i j : Nat) (y : Value) (h : i < n) (hy : (encP zP)[j]? = some y) : (offP n)[i * 12 + j]? = some y := by
  have hj : j < 12 := (List.getElem?_eq_some_iff.1 hy).1
  have e : (pcV zP).cells = (encP zP).toArray := rfl
  unfold offP madeCells
  rw [e, Array.getElem?_map, Array.getElem?_range, if_pos (by omega), Option.map_some]
  rw [show (encP zP).toArray.size = 12 from rfl, show (i * 12 + j) % 12 = j by omega]
  rw [getElem!_def, List.getElem?_toArray, hy]
theorem make_places (n : Nat) (w : World) (hn : n ≤ 512) :
    (Instr.makeSlice 103 (.int .i64 (n : Int)) (.int .i64 (n : Int))).run Try.prog w = .ok (.slice (some ⟨w.heap.size, 0, none⟩) n n) (w.alloc (.cells (offP n) 113)) := by
  obtain ⟨i0, hi, hz0, hz1, hz2⟩ := info_place
  have := run_make (P := Try.prog) w 103 113 i0 (pcV zP) Try.underlying103 hi hz0 .i64 .i64 n n (by omega) (by omega) (by rw [hz2]; omega) (by omega)
  rw [hz1] at this
  exact this

/-- May there be so many sets? -/
def pwB (s : Int) : Bool := (s == 1) || (s == 2) || (s == 4) || (s == 8) || (s == 16) || (s == 32) || (s == 64)
theorem pw_bits : ∀ n : Fin 65, 1 ≤ n.val → ((bits .and .i64 (n.val : Int) ((n.val : Int) - 1) == 0) = pwB (n.val : Int)) := by decide +kernel
theorem pw_iff {s : Nat} (h1 : 1 ≤ s) (h2 : s ≤ 64) : (bits .and .i64 (s : Int) ((s : Int) - 1) == 0) = pwB (s : Int) := pw_bits ⟨s, by omega⟩ h1
theorem pw_range {s : Int} (h : pwB s = true) : 1 ≤ s ∧ s ≤ 64 := by
  unfold pwB at h
  simp only [Bool.or_eq_true, beq_iff_eq] at h
  omega
theorem TP.made (w : World) (s k : Nat) (s0 : 1 ≤ s) (s1 : s ≤ 64) (k0 : 1 ≤ k) (k1 : k ≤ 8) :
    TP ((w.alloc (.cells (offP (s * k)) 113)).alloc (.cells #[.int .i64 (k : Int), .slice (some ⟨w.heap.size, 0, none⟩) (s * k) (s * k)] 105)) (w.heap.size + 1) w.heap.size s k (fun _ => zP) := by
  have R := RX.made1 w (.cells (offP (s * k)) 113) 105 [.int .i64 (k : Int), .slice (some ⟨w.heap.size, 0, none⟩) (s * k) (s * k)]
  have P : PR (w.alloc (.cells (offP (s * k)) 113)) w.heap.size (s * k) (fun _ => zP) :=
    ⟨by simp, fun i j y hi hy => by rw [cell_of_row _ _ (i * 12 + j) _ _ _ (heap_alloc_new w _)]; exact offP_get _ i j y hi hy, fun j => frozen_of_row _ _ j _ _ (heap_alloc_new w _)⟩
  exact ⟨R.cell rfl, R.cell rfl, P.kp ((Kp.refl _).alloc _), R.lt, by omega, s0, s1, k0, k1⟩

set_option maxHeartbeats 1000000 in
theorem tnew_ok (s k : Nat) (w : World) (hp : pwB (s : Int) = true) (k0 : 1 ≤ k) (k1 : k ≤ 8) :
    Calls Try.prog 11 #[.int .i64 (s : Int), .int .i64 (k : Int)] w fun e w' => e = .returned (.tuple #[.pointer (some ⟨w.heap.size + 1, 0, none⟩), .int .i64 0]) ∧ TP w' (w.heap.size + 1) w.heap.size s k (fun _ => zP) ∧ Kp w w' := by
  obtain ⟨s0, s1⟩ := pw_range hp
  have hb : (bits .and .i64 (s : Int) ((s : Int) - 1) == 0) = true := by rw [pw_iff (by omega) (by omega)]; exact hp
  have hb2 : bits .and .i64 (s : Int) ((s : Int) - 1) = 0 := by simpa using hb
  have hm := make_places (s * k) w (Nat.le_trans (Nat.mul_le_mul (show s ≤ 64 by omega) k1) (by decide))
  have HT : Hid (TP ((w.alloc (.cells (offP (s * k)) 113)).alloc (.cells #[.int .i64 (k : Int), .slice (some ⟨w.heap.size, 0, none⟩) (s * k) (s * k)] 105)) (w.heap.size + 1) w.heap.size s k (fun _ => zP)) := TP.made w s k (by omega) (by omega) k0 k1
  obtain ⟨N, hN⟩ : ∃ N, s * k = N := ⟨_, rfl⟩
  have e1 : (s : Int) * (k : Int) = (N : Int) := by rw [← hN]; exact (Int.natCast_mul s k).symm
  have n1 : N ≤ 512 := by rw [← hN]; exact Nat.le_trans (Nat.mul_le_mul (show s ≤ 64 by omega) k1) (by decide)
  rw [hN] at hm HT
  generalize offP N = A at *
  clear hb hp hN
  have y1 : (k : Int) ≤ 8 := by omega
  have y0 : (1 : Int) ≤ k := by omega
  go_enter Try.func11, Try.ntmps11
  go_wp2
  go_ret2
  exact ⟨rfl, HT.out, ((Kp.refl w).alloc _).alloc _⟩

set_option maxHeartbeats 1000000 in
theorem tnew_no (s k : Int) (w : World) (hp : ¬ (pwB s = true ∧ 1 ≤ k ∧ k ≤ 8)) :
    Calls Try.prog 11 #[.int .i64 s, .int .i64 k] w fun e w' => e = .returned (.tuple #[.pointer none, .int .i64 1]) ∧ w' = w := by
  by_cases c1 : s < 1
  · have d1 : decide (s < 1) = true := decide_eq_true c1
    clear hp
    go_enter Try.func11, Try.ntmps11
    go_wp2
    go_ret2
    exact ⟨rfl, rfl⟩
  have d1 : decide (s < 1) = false := decide_eq_false c1
  by_cases c2 : 64 < s
  · have d2 : decide (64 < s) = true := decide_eq_true c2
    clear hp
    go_enter Try.func11, Try.ntmps11
    go_wp2
    go_ret2
    exact ⟨rfl, rfl⟩
  have d2 : decide (64 < s) = false := decide_eq_false c2
  obtain ⟨n, rfl⟩ : ∃ n : Nat, s = (n : Int) := ⟨s.toNat, by omega⟩
  have hb := pw_iff (s := n) (by omega) (by omega)
  cases hq : pwB (n : Int)
  · rw [hq] at hb
    have hb2 : ¬ bits .and .i64 (n : Int) ((n : Int) - 1) = 0 := by simpa using hb
    have hb3 : (bits .and .i64 (n : Int) ((n : Int) - 1) != 0) = true := by simpa using hb2
    clear hp hq
    generalize hz : bits .and .i64 (n : Int) ((n : Int) - 1) = z at *
    go_enter Try.func11, Try.ntmps11
    go_wp2
    go_ret2
    exact ⟨rfl, rfl⟩
  · rw [hq] at hb
    have hb2 : bits .and .i64 (n : Int) ((n : Int) - 1) = 0 := by simpa using hb
    have hk : k < 1 ∨ 8 < k := by
      rcases (by omega : k < 1 ∨ 1 ≤ k) with c | c
      · exact .inl c
      · refine .inr ?_
        rcases (by omega : 8 < k ∨ k ≤ 8) with d | d
        · exact d
        · exact absurd ⟨hq, c, d⟩ hp
    clear hp hq hb
    rcases hk with c | c
    · have d3 : decide (k < 1) = true := decide_eq_true c
      go_enter Try.func11, Try.ntmps11
      go_wp2
      go_ret2
      exact ⟨rfl, rfl⟩
    · have d3 : decide (k < 1) = false := decide_eq_false (by omega)
      have d4 : decide (8 < k) = true := decide_eq_true c
      go_enter Try.func11, Try.ntmps11
      go_wp2
      go_ret2
      exact ⟨rfl, rfl⟩

end Go.Proofs.Ytclcickhgoiooaa
