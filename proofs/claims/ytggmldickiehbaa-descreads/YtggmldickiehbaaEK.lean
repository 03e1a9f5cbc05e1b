/- DescReads: the walk. -/
import Derived.Test.YtggmldickiehbaaEE
import Derived.Test.YtggmldickiehbaaEF
import Derived.Test.YtggmldickiehbaaEG
namespace Go.Proofs.Ytggmldickiehbaa
open Go.RowKit

/-- Three words lie in the block b. -/
def BW (w : World) (b : Nat) (x y z : Int) : Prop := w.heap[b]? = some (.cells #[.int .u64 x, .int .u64 y, .int .u64 z] 22)
section
variable {w w' : World} {b : Nat} {x y z : Int}
theorem BW.c0 (h : BW w b x y z) : w.cell? ⟨b, 0, none⟩ = some (.int .u64 x) := by rw [cell_of_row _ _ 0 _ _ _ h]; rfl
theorem BW.c1 (h : BW w b x y z) : w.cell? ⟨b, 1, none⟩ = some (.int .u64 y) := by rw [cell_of_row _ _ 1 _ _ _ h]; rfl
theorem BW.c2 (h : BW w b x y z) : w.cell? ⟨b, 2, none⟩ = some (.int .u64 z) := by rw [cell_of_row _ _ 2 _ _ _ h]; rfl
theorem BW.lt (h : BW w b x y z) : b < w.heap.size := by
  unfold BW at h
  by_cases c : b < w.heap.size
  · exact c
  · rw [show w.heap[b]? = none from by simp; omega] at h; cases h
theorem BW.kp (h : BW w b x y z) (g : Kp w w') : BW w' b x y z := (g.block b h.lt).trans h
theorem BW.made (w : World) (x y z : Int) : BW (w.alloc (.cells #[.int .u64 x, .int .u64 y, .int .u64 z] 22)) w.heap.size x y z := heap_alloc_new w _
end

set_option maxHeartbeats 8000000 in
set_option maxRecDepth 10000 in
theorem reads_walk (stage level : Int) (u : Nat) (k : Int) (a : Nat) (r q x : Bool) (f bit : Int) (m1 l m6 Y P Q : Nat) (s : Int) (k' : Int) (a' : Nat) (r' q' x' : Bool) (f' : Int) (kk0 : Int) (aa0 : Nat) (rr0 qq0 xx0 : Bool) (ff0 : Nat) (E0 : Int) (kk1 : Int) (aa1 : Nat) (rr1 qq1 xx1 : Bool) (ff1 : Nat) (E1 : Int) (kk2 : Int) (aa2 : Nat) (rr2 qq2 xx2 : Bool) (ff2 : Nat) (E2 : Int) (kk3 : Int) (aa3 : Nat) (rr3 qq3 xx3 : Bool) (ff3 : Nat) (E3 : Int) (w : World)
    (p1 : bits .and .i64 stage 1 = (m1 : Int)) (i1 : (m1 : Int) ≤ 1) (hs : 1 + (m1 : Int) = s) (p2 : bits .and .i64 level 3 = (l : Int)) (p6 : bits .and .i64 bit 63 = (m6 : Int)) (i6 : (m6 : Int) ≤ 63)
    (g2 : IntKind.u64.wrap (2 ^ m6) = (P : Int)) (p5 : bits .xor .u64 (Y : Int) (P : Int) = (Q : Int))
    (s1 : Aside (∀ w, Calls Try.prog 8 #[.int .i64 s, .int .i64 (l : Int), .agg #[.int .i64 k, .int .u64 (a : Int), .bool r, .bool q, .bool x, .int .i64 f]] w fun e w' => e = .returned (.agg #[.int .i64 k', .int .u64 (a' : Int), .bool r', .bool q', .bool x', .int .i64 f']) ∧ Kp w w'))
    (s2 : Aside (∀ w, Calls Try.prog 10 #[.int .i64 s, .int .i64 (l : Int), .agg #[.int .i64 k', .int .u64 (a' : Int), .bool r', .bool q', .bool x', .int .i64 f']] w fun e w' => e = .returned (.tuple #[.int .u64 (Y : Int), .int .i64 0]) ∧ Kp w w'))
    (d0 : Aside (∀ w, Calls Try.prog 16 #[.int .i64 s, .int .i64 (l : Int), .int .u64 (u : Int)] w fun e w' => e = .returned (.tuple #[.agg #[.int .i64 kk0, .int .u64 (aa0 : Int), .bool rr0, .bool qq0, .bool xx0, .int .i64 (ff0 : Int)], .int .i64 E0]) ∧ Kp w w'))
    (e0 : Aside (∀ w, Calls Try.prog 17 #[.int .i64 s, .int .i64 (l : Int), .int .u64 (u : Int)] w fun e w' => e = .returned (.tuple #[.agg #[.int .i64 kk0, .int .u64 (aa0 : Int), .bool rr0, .bool qq0, .bool xx0, .int .i64 (ff0 : Int)], .int .i64 E0]) ∧ Kp w w'))
    (d1 : Aside (∀ w, Calls Try.prog 16 #[.int .i64 s, .int .i64 (l : Int), .int .u64 (Y : Int)] w fun e w' => e = .returned (.tuple #[.agg #[.int .i64 kk1, .int .u64 (aa1 : Int), .bool rr1, .bool qq1, .bool xx1, .int .i64 (ff1 : Int)], .int .i64 E1]) ∧ Kp w w'))
    (e1 : Aside (∀ w, Calls Try.prog 17 #[.int .i64 s, .int .i64 (l : Int), .int .u64 (Y : Int)] w fun e w' => e = .returned (.tuple #[.agg #[.int .i64 kk1, .int .u64 (aa1 : Int), .bool rr1, .bool qq1, .bool xx1, .int .i64 (ff1 : Int)], .int .i64 E1]) ∧ Kp w w'))
    (d2 : Aside (∀ w, Calls Try.prog 16 #[.int .i64 s, .int .i64 (l : Int), .int .u64 (Q : Int)] w fun e w' => e = .returned (.tuple #[.agg #[.int .i64 kk2, .int .u64 (aa2 : Int), .bool rr2, .bool qq2, .bool xx2, .int .i64 (ff2 : Int)], .int .i64 E2]) ∧ Kp w w'))
    (e2 : Aside (∀ w, Calls Try.prog 17 #[.int .i64 s, .int .i64 (l : Int), .int .u64 (Q : Int)] w fun e w' => e = .returned (.tuple #[.agg #[.int .i64 kk2, .int .u64 (aa2 : Int), .bool rr2, .bool qq2, .bool xx2, .int .i64 (ff2 : Int)], .int .i64 E2]) ∧ Kp w w'))
    (d3 : Aside (∀ w, Calls Try.prog 16 #[.int .i64 stage, .int .i64 level, .int .u64 (u : Int)] w fun e w' => e = .returned (.tuple #[.agg #[.int .i64 kk3, .int .u64 (aa3 : Int), .bool rr3, .bool qq3, .bool xx3, .int .i64 (ff3 : Int)], .int .i64 E3]) ∧ Kp w w'))
    (e3 : Aside (∀ w, Calls Try.prog 17 #[.int .i64 stage, .int .i64 level, .int .u64 (u : Int)] w fun e w' => e = .returned (.tuple #[.agg #[.int .i64 kk3, .int .u64 (aa3 : Int), .bool rr3, .bool qq3, .bool xx3, .int .i64 (ff3 : Int)], .int .i64 E3]) ∧ Kp w w')) :
    Calls Try.prog 4 #[.int .i64 stage, .int .i64 level, .int .u64 (u : Int), .agg #[.int .i64 k, .int .u64 (a : Int), .bool r, .bool q, .bool x, .int .i64 f], .int .i64 bit] w fun e w' => e = .returned (.bool true) ∧ Kp w w' := by
  have st : Aside (∀ w, Calls Try.prog 11 #[] w fun e w' => e = .returned (.bool true) ∧ Kp w w') := fun w => dtold_any w
  have hq := eq_like
  go_enter Try.func4, Try.ntmps4
  go_wp2_with fail
  with_reducible refine (s1.out _).mono ?_
  rintro e w1 ⟨rfl, K⟩
  have HK1 : Hid (Kp w w1) := ((Kp.refl w).alloc _).trans K
  obtain ⟨b8, hb8⟩ : ∃ b8, b8 = w.heap.size := ⟨_, rfl⟩
  have Hb81 : Hid (BX w1 b8 k (a : Int) r q x f) := by rw [hb8]; exact ((BX.made w k (a : Int) r q x f).kp (Kp.refl _)).kp K
  (try rw [← hb8])
  clear K hb8 s1
  go_wp2_with fail
  with_reducible refine (s2.out _).mono ?_
  rintro e w2 ⟨rfl, K⟩
  have HK2 : Hid (Kp w w2) := HK1.out.trans K
  have Hb82 : Hid (BX w2 b8 k (a : Int) r q x f) := Hb81.out.kp K
  clear K HK1 Hb81 s2
  go_wp2_with fail
  refine wp_loop_rounds 4 ?_
  rw [rounds_succ]
  go_wp2_with fail
  with_reducible refine (d0.out _).mono ?_
  rintro e w3 ⟨rfl, K⟩
  have HK3 : Hid (Kp w w3) := (HK2.out.alloc _).trans K
  have Hb83 : Hid (BX w3 b8 k (a : Int) r q x f) := (Hb82.out.kp ((Kp.refl _).alloc _)).kp K
  obtain ⟨b15, hb15⟩ : ∃ b15, b15 = w2.heap.size := ⟨_, rfl⟩
  have Hb153 : Hid (BW w3 b15 (u : Int) (Y : Int) (Q : Int)) := by rw [hb15]; exact ((BW.made w2 (u : Int) (Y : Int) (Q : Int)).kp (Kp.refl _)).kp K
  (try rw [← hb15])
  clear K hb15 HK2 Hb82 d0
  have Bb15 : BW (w3.alloc (.cells #[.int .i64 kk0, .int .u64 (aa0 : Int), .bool rr0, .bool qq0, .bool xx0, .int .i64 (ff0 : Int)] 26)) b15 (u : Int) (Y : Int) (Q : Int) := Hb153.out.kp ((Kp.refl _).alloc _)
  have y0 := Bb15.c0
  have y1 := Bb15.c1
  have y2 := Bb15.c2
  clear Bb15
  go_wp2_with fail
  with_reducible refine (e0.out _).mono ?_
  rintro e w4 ⟨rfl, K⟩
  have HK4 : Hid (Kp w w4) := (HK3.out.alloc _).trans K
  have Hb84 : Hid (BX w4 b8 k (a : Int) r q x f) := (Hb83.out.kp ((Kp.refl _).alloc _)).kp K
  have Hb154 : Hid (BW w4 b15 (u : Int) (Y : Int) (Q : Int)) := (Hb153.out.kp ((Kp.refl _).alloc _)).kp K
  obtain ⟨b170, hb170⟩ : ∃ b170, b170 = w3.heap.size := ⟨_, rfl⟩
  have Hb1704 : Hid (BX w4 b170 kk0 (aa0 : Int) rr0 qq0 xx0 (ff0 : Int)) := by rw [hb170]; exact ((BX.made w3 kk0 (aa0 : Int) rr0 qq0 xx0 (ff0 : Int)).kp (Kp.refl _)).kp K
  (try rw [← hb170])
  clear K hb170 HK3 Hb83 Hb153 e0 y0 y1 y2
  have Bb15 : BW (w4.alloc (.cells #[.int .i64 kk0, .int .u64 (aa0 : Int), .bool rr0, .bool qq0, .bool xx0, .int .i64 (ff0 : Int)] 26)) b15 (u : Int) (Y : Int) (Q : Int) := Hb154.out.kp ((Kp.refl _).alloc _)
  have y0 := Bb15.c0
  have y1 := Bb15.c1
  have y2 := Bb15.c2
  clear Bb15
  have Bb170 : BX (w4.alloc (.cells #[.int .i64 kk0, .int .u64 (aa0 : Int), .bool rr0, .bool qq0, .bool xx0, .int .i64 (ff0 : Int)] 26)) b170 kk0 (aa0 : Int) rr0 qq0 xx0 (ff0 : Int) := Hb1704.out.kp ((Kp.refl _).alloc _)
  have x0 := Bb170.c0
  have x1 := Bb170.c1
  have x2 := Bb170.c2
  have x3 := Bb170.c3
  have x4 := Bb170.c4
  have x5 := Bb170.c5
  clear Bb170
  go_wp2_with fail
  rw [rounds_succ]
  go_wp2_with fail
  with_reducible refine (d1.out _).mono ?_
  rintro e w5 ⟨rfl, K⟩
  have HK5 : Hid (Kp w w5) := (HK4.out.alloc _).trans K
  have Hb85 : Hid (BX w5 b8 k (a : Int) r q x f) := (Hb84.out.kp ((Kp.refl _).alloc _)).kp K
  have Hb155 : Hid (BW w5 b15 (u : Int) (Y : Int) (Q : Int)) := (Hb154.out.kp ((Kp.refl _).alloc _)).kp K
  have Hb1705 : Hid (BX w5 b170 kk0 (aa0 : Int) rr0 qq0 xx0 (ff0 : Int)) := (Hb1704.out.kp ((Kp.refl _).alloc _)).kp K
  obtain ⟨b190, hb190⟩ : ∃ b190, b190 = w4.heap.size := ⟨_, rfl⟩
  have Hb1905 : Hid (BX w5 b190 kk0 (aa0 : Int) rr0 qq0 xx0 (ff0 : Int)) := by rw [hb190]; exact ((BX.made w4 kk0 (aa0 : Int) rr0 qq0 xx0 (ff0 : Int)).kp (Kp.refl _)).kp K
  (try rw [← hb190])
  clear K hb190 HK4 Hb84 Hb154 Hb1704 d1 y0 y1 y2 x0 x1 x2 x3 x4 x5
  have Bb15 : BW (w5.alloc (.cells #[.int .i64 kk1, .int .u64 (aa1 : Int), .bool rr1, .bool qq1, .bool xx1, .int .i64 (ff1 : Int)] 26)) b15 (u : Int) (Y : Int) (Q : Int) := Hb155.out.kp ((Kp.refl _).alloc _)
  have y0 := Bb15.c0
  have y1 := Bb15.c1
  have y2 := Bb15.c2
  clear Bb15
  go_wp2_with fail
  with_reducible refine (e1.out _).mono ?_
  rintro e w6 ⟨rfl, K⟩
  have HK6 : Hid (Kp w w6) := (HK5.out.alloc _).trans K
  have Hb86 : Hid (BX w6 b8 k (a : Int) r q x f) := (Hb85.out.kp ((Kp.refl _).alloc _)).kp K
  have Hb156 : Hid (BW w6 b15 (u : Int) (Y : Int) (Q : Int)) := (Hb155.out.kp ((Kp.refl _).alloc _)).kp K
  have Hb1706 : Hid (BX w6 b170 kk0 (aa0 : Int) rr0 qq0 xx0 (ff0 : Int)) := (Hb1705.out.kp ((Kp.refl _).alloc _)).kp K
  have Hb1906 : Hid (BX w6 b190 kk0 (aa0 : Int) rr0 qq0 xx0 (ff0 : Int)) := (Hb1905.out.kp ((Kp.refl _).alloc _)).kp K
  obtain ⟨b171, hb171⟩ : ∃ b171, b171 = w5.heap.size := ⟨_, rfl⟩
  have Hb1716 : Hid (BX w6 b171 kk1 (aa1 : Int) rr1 qq1 xx1 (ff1 : Int)) := by rw [hb171]; exact ((BX.made w5 kk1 (aa1 : Int) rr1 qq1 xx1 (ff1 : Int)).kp (Kp.refl _)).kp K
  (try rw [← hb171])
  clear K hb171 HK5 Hb85 Hb155 Hb1705 Hb1905 e1 y0 y1 y2
  have Bb15 : BW (w6.alloc (.cells #[.int .i64 kk1, .int .u64 (aa1 : Int), .bool rr1, .bool qq1, .bool xx1, .int .i64 (ff1 : Int)] 26)) b15 (u : Int) (Y : Int) (Q : Int) := Hb156.out.kp ((Kp.refl _).alloc _)
  have y0 := Bb15.c0
  have y1 := Bb15.c1
  have y2 := Bb15.c2
  clear Bb15
  have Bb171 : BX (w6.alloc (.cells #[.int .i64 kk1, .int .u64 (aa1 : Int), .bool rr1, .bool qq1, .bool xx1, .int .i64 (ff1 : Int)] 26)) b171 kk1 (aa1 : Int) rr1 qq1 xx1 (ff1 : Int) := Hb1716.out.kp ((Kp.refl _).alloc _)
  have x0 := Bb171.c0
  have x1 := Bb171.c1
  have x2 := Bb171.c2
  have x3 := Bb171.c3
  have x4 := Bb171.c4
  have x5 := Bb171.c5
  clear Bb171
  go_wp2_with fail
  rw [rounds_succ]
  go_wp2_with fail
  with_reducible refine (d2.out _).mono ?_
  rintro e w7 ⟨rfl, K⟩
  have HK7 : Hid (Kp w w7) := (HK6.out.alloc _).trans K
  have Hb87 : Hid (BX w7 b8 k (a : Int) r q x f) := (Hb86.out.kp ((Kp.refl _).alloc _)).kp K
  have Hb157 : Hid (BW w7 b15 (u : Int) (Y : Int) (Q : Int)) := (Hb156.out.kp ((Kp.refl _).alloc _)).kp K
  have Hb1707 : Hid (BX w7 b170 kk0 (aa0 : Int) rr0 qq0 xx0 (ff0 : Int)) := (Hb1706.out.kp ((Kp.refl _).alloc _)).kp K
  have Hb1907 : Hid (BX w7 b190 kk0 (aa0 : Int) rr0 qq0 xx0 (ff0 : Int)) := (Hb1906.out.kp ((Kp.refl _).alloc _)).kp K
  have Hb1717 : Hid (BX w7 b171 kk1 (aa1 : Int) rr1 qq1 xx1 (ff1 : Int)) := (Hb1716.out.kp ((Kp.refl _).alloc _)).kp K
  obtain ⟨b191, hb191⟩ : ∃ b191, b191 = w6.heap.size := ⟨_, rfl⟩
  have Hb1917 : Hid (BX w7 b191 kk1 (aa1 : Int) rr1 qq1 xx1 (ff1 : Int)) := by rw [hb191]; exact ((BX.made w6 kk1 (aa1 : Int) rr1 qq1 xx1 (ff1 : Int)).kp (Kp.refl _)).kp K
  (try rw [← hb191])
  clear K hb191 HK6 Hb86 Hb156 Hb1706 Hb1906 Hb1716 d2 y0 y1 y2 x0 x1 x2 x3 x4 x5
  have Bb15 : BW (w7.alloc (.cells #[.int .i64 kk2, .int .u64 (aa2 : Int), .bool rr2, .bool qq2, .bool xx2, .int .i64 (ff2 : Int)] 26)) b15 (u : Int) (Y : Int) (Q : Int) := Hb157.out.kp ((Kp.refl _).alloc _)
  have y0 := Bb15.c0
  have y1 := Bb15.c1
  have y2 := Bb15.c2
  clear Bb15
  go_wp2_with fail
  with_reducible refine (e2.out _).mono ?_
  rintro e w8 ⟨rfl, K⟩
  have HK8 : Hid (Kp w w8) := (HK7.out.alloc _).trans K
  have Hb88 : Hid (BX w8 b8 k (a : Int) r q x f) := (Hb87.out.kp ((Kp.refl _).alloc _)).kp K
  have Hb158 : Hid (BW w8 b15 (u : Int) (Y : Int) (Q : Int)) := (Hb157.out.kp ((Kp.refl _).alloc _)).kp K
  have Hb1708 : Hid (BX w8 b170 kk0 (aa0 : Int) rr0 qq0 xx0 (ff0 : Int)) := (Hb1707.out.kp ((Kp.refl _).alloc _)).kp K
  have Hb1908 : Hid (BX w8 b190 kk0 (aa0 : Int) rr0 qq0 xx0 (ff0 : Int)) := (Hb1907.out.kp ((Kp.refl _).alloc _)).kp K
  have Hb1718 : Hid (BX w8 b171 kk1 (aa1 : Int) rr1 qq1 xx1 (ff1 : Int)) := (Hb1717.out.kp ((Kp.refl _).alloc _)).kp K
  have Hb1918 : Hid (BX w8 b191 kk1 (aa1 : Int) rr1 qq1 xx1 (ff1 : Int)) := (Hb1917.out.kp ((Kp.refl _).alloc _)).kp K
  obtain ⟨b172, hb172⟩ : ∃ b172, b172 = w7.heap.size := ⟨_, rfl⟩
  have Hb1728 : Hid (BX w8 b172 kk2 (aa2 : Int) rr2 qq2 xx2 (ff2 : Int)) := by rw [hb172]; exact ((BX.made w7 kk2 (aa2 : Int) rr2 qq2 xx2 (ff2 : Int)).kp (Kp.refl _)).kp K
  (try rw [← hb172])
  clear K hb172 HK7 Hb87 Hb157 Hb1707 Hb1907 Hb1717 Hb1917 e2 y0 y1 y2
  have Bb172 : BX (w8.alloc (.cells #[.int .i64 kk2, .int .u64 (aa2 : Int), .bool rr2, .bool qq2, .bool xx2, .int .i64 (ff2 : Int)] 26)) b172 kk2 (aa2 : Int) rr2 qq2 xx2 (ff2 : Int) := Hb1728.out.kp ((Kp.refl _).alloc _)
  have x0 := Bb172.c0
  have x1 := Bb172.c1
  have x2 := Bb172.c2
  have x3 := Bb172.c3
  have x4 := Bb172.c4
  have x5 := Bb172.c5
  clear Bb172
  go_wp2_with fail
  rw [rounds_succ]
  go_wp2_with fail
  with_reducible refine (d3.out _).mono ?_
  rintro e w9 ⟨rfl, K⟩
  have HK9 : Hid (Kp w w9) := (HK8.out.alloc _).trans K
  have Hb89 : Hid (BX w9 b8 k (a : Int) r q x f) := (Hb88.out.kp ((Kp.refl _).alloc _)).kp K
  have Hb159 : Hid (BW w9 b15 (u : Int) (Y : Int) (Q : Int)) := (Hb158.out.kp ((Kp.refl _).alloc _)).kp K
  have Hb1709 : Hid (BX w9 b170 kk0 (aa0 : Int) rr0 qq0 xx0 (ff0 : Int)) := (Hb1708.out.kp ((Kp.refl _).alloc _)).kp K
  have Hb1909 : Hid (BX w9 b190 kk0 (aa0 : Int) rr0 qq0 xx0 (ff0 : Int)) := (Hb1908.out.kp ((Kp.refl _).alloc _)).kp K
  have Hb1719 : Hid (BX w9 b171 kk1 (aa1 : Int) rr1 qq1 xx1 (ff1 : Int)) := (Hb1718.out.kp ((Kp.refl _).alloc _)).kp K
  have Hb1919 : Hid (BX w9 b191 kk1 (aa1 : Int) rr1 qq1 xx1 (ff1 : Int)) := (Hb1918.out.kp ((Kp.refl _).alloc _)).kp K
  have Hb1729 : Hid (BX w9 b172 kk2 (aa2 : Int) rr2 qq2 xx2 (ff2 : Int)) := (Hb1728.out.kp ((Kp.refl _).alloc _)).kp K
  obtain ⟨b192, hb192⟩ : ∃ b192, b192 = w8.heap.size := ⟨_, rfl⟩
  have Hb1929 : Hid (BX w9 b192 kk2 (aa2 : Int) rr2 qq2 xx2 (ff2 : Int)) := by rw [hb192]; exact ((BX.made w8 kk2 (aa2 : Int) rr2 qq2 xx2 (ff2 : Int)).kp (Kp.refl _)).kp K
  (try rw [← hb192])
  clear K hb192 HK8 Hb88 Hb158 Hb1708 Hb1908 Hb1718 Hb1918 Hb1728 d3 x0 x1 x2 x3 x4 x5
  go_wp2_with fail
  with_reducible refine (e3.out _).mono ?_
  rintro e w10 ⟨rfl, K⟩
  have HK10 : Hid (Kp w w10) := (HK9.out.alloc _).trans K
  have Hb810 : Hid (BX w10 b8 k (a : Int) r q x f) := (Hb89.out.kp ((Kp.refl _).alloc _)).kp K
  have Hb1510 : Hid (BW w10 b15 (u : Int) (Y : Int) (Q : Int)) := (Hb159.out.kp ((Kp.refl _).alloc _)).kp K
  have Hb17010 : Hid (BX w10 b170 kk0 (aa0 : Int) rr0 qq0 xx0 (ff0 : Int)) := (Hb1709.out.kp ((Kp.refl _).alloc _)).kp K
  have Hb19010 : Hid (BX w10 b190 kk0 (aa0 : Int) rr0 qq0 xx0 (ff0 : Int)) := (Hb1909.out.kp ((Kp.refl _).alloc _)).kp K
  have Hb17110 : Hid (BX w10 b171 kk1 (aa1 : Int) rr1 qq1 xx1 (ff1 : Int)) := (Hb1719.out.kp ((Kp.refl _).alloc _)).kp K
  have Hb19110 : Hid (BX w10 b191 kk1 (aa1 : Int) rr1 qq1 xx1 (ff1 : Int)) := (Hb1919.out.kp ((Kp.refl _).alloc _)).kp K
  have Hb17210 : Hid (BX w10 b172 kk2 (aa2 : Int) rr2 qq2 xx2 (ff2 : Int)) := (Hb1729.out.kp ((Kp.refl _).alloc _)).kp K
  have Hb19210 : Hid (BX w10 b192 kk2 (aa2 : Int) rr2 qq2 xx2 (ff2 : Int)) := (Hb1929.out.kp ((Kp.refl _).alloc _)).kp K
  obtain ⟨b21, hb21⟩ : ∃ b21, b21 = w9.heap.size := ⟨_, rfl⟩
  have Hb2110 : Hid (BX w10 b21 kk3 (aa3 : Int) rr3 qq3 xx3 (ff3 : Int)) := by rw [hb21]; exact ((BX.made w9 kk3 (aa3 : Int) rr3 qq3 xx3 (ff3 : Int)).kp (Kp.refl _)).kp K
  (try rw [← hb21])
  clear K hb21 HK9 Hb89 Hb159 Hb1709 Hb1909 Hb1719 Hb1919 Hb1729 Hb1929 e3
  go_wp2_with fail
  with_reducible refine (st.out _).mono ?_
  rintro e w11 ⟨rfl, K⟩
  have HK11 : Hid (Kp w w11) := (HK10.out.alloc _).trans K
  have Hb811 : Hid (BX w11 b8 k (a : Int) r q x f) := (Hb810.out.kp ((Kp.refl _).alloc _)).kp K
  have Hb1511 : Hid (BW w11 b15 (u : Int) (Y : Int) (Q : Int)) := (Hb1510.out.kp ((Kp.refl _).alloc _)).kp K
  have Hb17011 : Hid (BX w11 b170 kk0 (aa0 : Int) rr0 qq0 xx0 (ff0 : Int)) := (Hb17010.out.kp ((Kp.refl _).alloc _)).kp K
  have Hb19011 : Hid (BX w11 b190 kk0 (aa0 : Int) rr0 qq0 xx0 (ff0 : Int)) := (Hb19010.out.kp ((Kp.refl _).alloc _)).kp K
  have Hb17111 : Hid (BX w11 b171 kk1 (aa1 : Int) rr1 qq1 xx1 (ff1 : Int)) := (Hb17110.out.kp ((Kp.refl _).alloc _)).kp K
  have Hb19111 : Hid (BX w11 b191 kk1 (aa1 : Int) rr1 qq1 xx1 (ff1 : Int)) := (Hb19110.out.kp ((Kp.refl _).alloc _)).kp K
  have Hb17211 : Hid (BX w11 b172 kk2 (aa2 : Int) rr2 qq2 xx2 (ff2 : Int)) := (Hb17210.out.kp ((Kp.refl _).alloc _)).kp K
  have Hb19211 : Hid (BX w11 b192 kk2 (aa2 : Int) rr2 qq2 xx2 (ff2 : Int)) := (Hb19210.out.kp ((Kp.refl _).alloc _)).kp K
  have Hb2111 : Hid (BX w11 b21 kk3 (aa3 : Int) rr3 qq3 xx3 (ff3 : Int)) := (Hb2110.out.kp ((Kp.refl _).alloc _)).kp K
  obtain ⟨b23, hb23⟩ : ∃ b23, b23 = w10.heap.size := ⟨_, rfl⟩
  have Hb2311 : Hid (BX w11 b23 kk3 (aa3 : Int) rr3 qq3 xx3 (ff3 : Int)) := by rw [hb23]; exact ((BX.made w10 kk3 (aa3 : Int) rr3 qq3 xx3 (ff3 : Int)).kp (Kp.refl _)).kp K
  (try rw [← hb23])
  clear K hb23 HK10 Hb810 Hb1510 Hb17010 Hb19010 Hb17110 Hb19110 Hb17210 Hb19210 Hb2110 st
  have x0 := Hb2111.out.c0
  have x1 := Hb2111.out.c1
  have x2 := Hb2111.out.c2
  have x3 := Hb2111.out.c3
  have x4 := Hb2111.out.c4
  have x5 := Hb2111.out.c5
  have y0 := Hb2311.out.c0
  have y1 := Hb2311.out.c1
  have y2 := Hb2311.out.c2
  have y3 := Hb2311.out.c3
  have y4 := Hb2311.out.c4
  have y5 := Hb2311.out.c5
  go_wp2_with fail
  go_ret
  exact ⟨rfl, HK11.out⟩

theorem reads_law (stage level u : Int) (k : Int) (a : Nat) (r q x : Bool) (f bit : Int) (hu : (Lit.int .u64 u).wf = true) (ha : a < 18446744073709551616) (w : World) :
    Calls Try.prog 4 #[.int .i64 stage, .int .i64 level, .int .u64 u, .agg #[.int .i64 k, .int .u64 (a : Int), .bool r, .bool q, .bool x, .int .i64 f], .int .i64 bit] w fun e w' => e = .returned (.bool true) ∧ Kp w w' := by
  have b := wf_word hu
  obtain ⟨u, rfl⟩ : ∃ n : Nat, u = n := ⟨u.toNat, by omega⟩
  have hu : u < 18446744073709551616 := by omega
  obtain ⟨m1, p1, hm1⟩ := and_lim stage 1 (by decide)
  obtain ⟨l, p2, hl⟩ := and_lim level 3 (by decide)
  obtain ⟨m6, p6, hm6⟩ := and_lim bit 63 (by decide)
  obtain ⟨s, hs⟩ : ∃ s, 1 + (m1 : Int) = s := ⟨_, rfl⟩
  have hp : isPl s l = true := isPl_iff.2 ⟨by omega, by omega, by omega, by omega⟩
  obtain ⟨k', a', r', q', x', f', hc, s1⟩ := near_any s l k a r q x f hp ha
  have s2 := fun w => rencode_any s l k' a' r' q' x' f' w
  obtain ⟨Y, e1, e2, _⟩ := dec_back hc
  have hw : dencN s l k' a' r' q' x' f' = Y := by unfold dencN; rw [if_pos hc]; exact e1
  rw [hc, hw] at s2
  have hP : 2 ^ m6 < 18446744073709551616 := Nat.lt_of_le_of_lt (Nat.pow_le_pow_right (by decide) hm6) (by decide)
  have g2 : IntKind.u64.wrap (2 ^ m6) = ((2 ^ m6 : Nat) : Int) := by
    have := shl_mod (c := 1) (low := m6) (by rw [Nat.one_mul]; exact hP)
    rw [Nat.one_mul] at this
    rw [← this]; congr 1; simp
  have p5 := u64_xor_nat Y (2 ^ m6) e2 hP
  have hQ : Y ^^^ 2 ^ m6 < 18446744073709551616 := Nat.xor_lt_two_pow (n := 64) e2 hP
  exact reads_walk stage level u k a r q x f bit m1 l m6 Y (2 ^ m6) (Y ^^^ 2 ^ m6) s k' a' r' q' x' f' _ _ _ _ _ _ _ _ _ _ _ _ _ _ _ _ _ _ _ _ _ _ _ _ _ _ _ _ w p1 (by omega) hs p2 p6 (by omega) g2 p5 s1 s2
    (fun w => decode_any s l u w hu) (fun w => rdecode_any s l u w hu) (fun w => decode_any s l Y w e2) (fun w => rdecode_any s l Y w e2) (fun w => decode_any s l _ w hQ) (fun w => rdecode_any s l _ w hQ) (fun w => decode_any stage level u w hu) (fun w => rdecode_any stage level u w hu)

end Go.Proofs.Ytggmldickiehbaa
