/- desc: a descriptor in a block of one's own; Check. -/
import Derived.Test.YtggmldickiehbaaE2
namespace Go.Proofs.Ytggmldickiehbaa
open Go.RowKit

/-- The descriptor lies in the block b. -/
def BX (w : World) (b : Nat) (k a : Int) (r q x : Bool) (f : Int) : Prop := w.heap[b]? = some (.cells #[.int .i64 k, .int .u64 a, .bool r, .bool q, .bool x, .int .i64 f] 26)
section
variable {w w' : World} {b : Nat} {k a : Int} {r q x : Bool} {f : Int}
theorem BX.c0 (h : BX w b k a r q x f) : w.cell? ⟨b, 0, none⟩ = some (.int .i64 k) := by rw [cell_of_row _ _ 0 _ _ _ h]; rfl
theorem BX.c1 (h : BX w b k a r q x f) : w.cell? ⟨b, 1, none⟩ = some (.int .u64 a) := by rw [cell_of_row _ _ 1 _ _ _ h]; rfl
theorem BX.c2 (h : BX w b k a r q x f) : w.cell? ⟨b, 2, none⟩ = some (.bool r) := by rw [cell_of_row _ _ 2 _ _ _ h]; rfl
theorem BX.c3 (h : BX w b k a r q x f) : w.cell? ⟨b, 3, none⟩ = some (.bool q) := by rw [cell_of_row _ _ 3 _ _ _ h]; rfl
theorem BX.c4 (h : BX w b k a r q x f) : w.cell? ⟨b, 4, none⟩ = some (.bool x) := by rw [cell_of_row _ _ 4 _ _ _ h]; rfl
theorem BX.c5 (h : BX w b k a r q x f) : w.cell? ⟨b, 5, none⟩ = some (.int .i64 f) := by rw [cell_of_row _ _ 5 _ _ _ h]; rfl
theorem BX.lt (h : BX w b k a r q x f) : b < w.heap.size := by
  unfold BX at h
  by_cases c : b < w.heap.size
  · exact c
  · rw [show w.heap[b]? = none from by simp; omega] at h; cases h
theorem BX.kp (h : BX w b k a r q x f) (g : Kp w w') : BX w' b k a r q x f := (g.block b h.lt).trans h
theorem BX.made (w : World) (k a : Int) (r q x : Bool) (f : Int) : BX (w.alloc (.cells #[.int .i64 k, .int .u64 a, .bool r, .bool q, .bool x, .int .i64 f] 26)) w.heap.size k a r q x f := heap_alloc_new w _
end

/-- What refuses a descriptor. -/
def dchk (s l k : Int) (a : Nat) (r q x : Bool) (f : Int) : Int :=
  if ¬ (isPl s l = true ∧ isKd k = true ∧ 0 ≤ f ∧ f ≤ 15) then 1 else if fm l k a r q x f = false then 4 else if topS s ≤ a then 2 else if a % unitN l k ≠ 0 then 3 else 0
theorem unit_pos {s l k : Int} (h : isPl s l = true) : 0 < unitN l k := by
  have := isPl_iff.1 h
  unfold unitN
  split
  · unfold spn; rw [if_pos (isLv_iff.2 ⟨this.2.2.1, this.2.2.2⟩)]; exact Nat.two_pow_pos _
  · decide

set_option maxHeartbeats 4000000 in
theorem dcheck_any (s l k : Int) (a : Nat) (r q x : Bool) (f : Int) (w : World) :
    Calls Try.prog 12 #[.int .i64 s, .int .i64 l, .agg #[.int .i64 k, .int .u64 (a : Int), .bool r, .bool q, .bool x, .int .i64 f]] w fun e w' => e = .returned (.int .i64 (dchk s l k a r q x f)) ∧ Kp w w' := by
  have c1 := isPlace_any s l
  have c2 := isKind_any k
  have c3 := formed_any l k a r q x f
  have c4 := top_any s
  have c5 := unit_any l k
  have up := @unit_pos s l k
  unfold dchk
  generalize unitN l k = un at *
  generalize topS s = tp at *
  generalize fm l k a r q x f = fo at *
  generalize isPl s l = pl at *
  generalize isKd k = kd at *
  cases pl
  · rw [if_pos (by simp)]
    go_enter Try.func12, Try.ntmps12
    go_wp2_with (first | (go_at_call 22; with_reducible refine (c1 _).mono ?_; rintro e w' ⟨rfl, rfl⟩) | (go_at_call 23; with_reducible refine (c2 _).mono ?_; rintro e w' ⟨rfl, rfl⟩))
    go_ret
    exact ⟨rfl, (Kp.refl _).alloc _⟩
  cases kd
  · rw [if_pos (by simp)]
    go_enter Try.func12, Try.ntmps12
    go_wp2_with (first | (go_at_call 22; with_reducible refine (c1 _).mono ?_; rintro e w' ⟨rfl, rfl⟩) | (go_at_call 23; with_reducible refine (c2 _).mono ?_; rintro e w' ⟨rfl, rfl⟩))
    go_ret
    exact ⟨rfl, (Kp.refl _).alloc _⟩
  by_cases h1 : f < 0
  · rw [if_pos (by omega)]
    go_enter Try.func12, Try.ntmps12
    go_wp2_with (first | (go_at_call 22; with_reducible refine (c1 _).mono ?_; rintro e w' ⟨rfl, rfl⟩) | (go_at_call 23; with_reducible refine (c2 _).mono ?_; rintro e w' ⟨rfl, rfl⟩))
    go_ret
    exact ⟨rfl, (Kp.refl _).alloc _⟩
  by_cases h2 : 15 < f
  · rw [if_pos (by omega)]
    go_enter Try.func12, Try.ntmps12
    go_wp2_with (first | (go_at_call 22; with_reducible refine (c1 _).mono ?_; rintro e w' ⟨rfl, rfl⟩) | (go_at_call 23; with_reducible refine (c2 _).mono ?_; rintro e w' ⟨rfl, rfl⟩))
    go_ret
    exact ⟨rfl, (Kp.refl _).alloc _⟩
  rw [if_neg (by simp; omega)]
  have up := up rfl
  cases fo
  · rw [if_pos rfl]
    go_enter Try.func12, Try.ntmps12
    go_wp2_with (first | (go_at_call 22; with_reducible refine (c1 _).mono ?_; rintro e w' ⟨rfl, rfl⟩) | (go_at_call 23; with_reducible refine (c2 _).mono ?_; rintro e w' ⟨rfl, rfl⟩))
    with_reducible refine (c3 _).mono ?_
    rintro e w1 ⟨rfl, K⟩
    have HK : Hid (Kp w w1) := ((Kp.refl _).alloc _).trans K
    clear K
    go_wp2
    go_ret
    exact ⟨rfl, HK.out⟩
  rw [if_neg (by decide)]
  have y0 : (0 : Int) < un := by omega
  have y1 : ¬ ((un : Nat) : Int) = 0 := by omega
  have y2 : (a : Int) % (un : Nat) = ((a % un : Nat) : Int) := by simp
  by_cases t : tp ≤ a
  · rw [if_pos t]
    have t1 : ((tp : Nat) : Int) ≤ a := by omega
    go_enter Try.func12, Try.ntmps12
    go_wp2_with (first | (go_at_call 22; with_reducible refine (c1 _).mono ?_; rintro e w' ⟨rfl, rfl⟩) | (go_at_call 23; with_reducible refine (c2 _).mono ?_; rintro e w' ⟨rfl, rfl⟩))
    with_reducible refine (c3 _).mono ?_
    rintro e w1 ⟨rfl, K⟩
    have B := (BX.made w k a r q x f).kp K
    have HK : Hid (Kp w w1) := ((Kp.refl _).alloc _).trans K
    have x0 := B.c0
    have x1 := B.c1
    clear K B
    go_wp2_with fail
    go_quiet (first | (go_at_call 14; refine Calls.quiet_of_same (c4 _)))
    go_wp2
    go_ret
    exact ⟨rfl, HK.out.drewN _⟩
  rw [if_neg t]
  have t1 : ¬ ((tp : Nat) : Int) ≤ a := by omega
  by_cases g : a % un = 0
  · rw [if_neg (by omega)]
    rw [g] at y2
    have y3 : (a : Int).tmod (un : Nat) = 0 := by rw [Int.tmod_eq_emod_of_nonneg (by omega)]; exact y2
    clear g
    go_enter Try.func12, Try.ntmps12
    go_wp2_with (first | (go_at_call 22; with_reducible refine (c1 _).mono ?_; rintro e w' ⟨rfl, rfl⟩) | (go_at_call 23; with_reducible refine (c2 _).mono ?_; rintro e w' ⟨rfl, rfl⟩))
    with_reducible refine (c3 _).mono ?_
    rintro e w1 ⟨rfl, K⟩
    have B := (BX.made w k a r q x f).kp K
    have HK : Hid (Kp w w1) := ((Kp.refl _).alloc _).trans K
    have x0 := B.c0
    have x1 := B.c1
    clear K B
    go_wp2_with fail
    go_quiet (first | (go_at_call 14; refine Calls.quiet_of_same (c4 _)))
    rename_i nq
    have z0 : (w1.drewN nq).cell? ⟨w.heap.size, 0, none⟩ = some (.int .i64 k) := x0
    have z1 : (w1.drewN nq).cell? ⟨w.heap.size, 1, none⟩ = some (.int .u64 (a : Int)) := x1
    have HK2 : Hid (Kp w (w1.drewN nq)) := HK.out.drewN nq
    clear x0 x1 HK
    generalize w1.drewN nq = w2 at *
    go_wp2_with fail
    go_quiet (first | (go_at_call 25; refine Calls.quiet_of_same (c5 _)))
    go_wp2
    go_ret
    exact ⟨rfl, HK2.out.drewN _⟩
  · rw [if_pos g]
    have y3 : (a : Int).tmod (un : Nat) = ((a % un : Nat) : Int) := by rw [Int.tmod_eq_emod_of_nonneg (by omega)]; exact y2
    have g1 : ((a % un : Nat) : Int) ≠ 0 := by omega
    have g2 : (((a % un : Nat) : Int) != 0) = true := by rw [bne_iff_ne]; exact g1
    clear y2
    generalize a % un = m at *
    go_enter Try.func12, Try.ntmps12
    go_wp2_with (first | (go_at_call 22; with_reducible refine (c1 _).mono ?_; rintro e w' ⟨rfl, rfl⟩) | (go_at_call 23; with_reducible refine (c2 _).mono ?_; rintro e w' ⟨rfl, rfl⟩))
    with_reducible refine (c3 _).mono ?_
    rintro e w1 ⟨rfl, K⟩
    have B := (BX.made w k a r q x f).kp K
    have HK : Hid (Kp w w1) := ((Kp.refl _).alloc _).trans K
    have x0 := B.c0
    have x1 := B.c1
    clear K B
    go_wp2_with fail
    go_quiet (first | (go_at_call 14; refine Calls.quiet_of_same (c4 _)))
    rename_i nq
    have z0 : (w1.drewN nq).cell? ⟨w.heap.size, 0, none⟩ = some (.int .i64 k) := x0
    have z1 : (w1.drewN nq).cell? ⟨w.heap.size, 1, none⟩ = some (.int .u64 (a : Int)) := x1
    have HK2 : Hid (Kp w (w1.drewN nq)) := HK.out.drewN nq
    clear x0 x1 HK
    generalize w1.drewN nq = w2 at *
    go_wp2_with fail
    go_quiet (first | (go_at_call 25; refine Calls.quiet_of_same (c5 _)))
    go_wp2
    go_ret
    exact ⟨rfl, HK2.out.drewN _⟩

end Go.Proofs.Ytggmldickiehbaa
