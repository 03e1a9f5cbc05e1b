/- Rows of words that are sorted: the state; cmp.Less. -/
import Derived.Test.YthkkcnnlfjchaaaDoorU0
import Derived.Shelf.SlSortCmp.Kit1
import Derived.Sort.LotB
import Derived.Sort.LotD3
namespace Go.Proofs.YthkkcnnlfjchaaaDoor
open Go.RowKit Go.Sort

abbrev eU : Int → Value := Value.int .u64
theorem one_eU : OneCell eU := fun _ => rfl
/-- W is a world of the sort that began in w0, where the row in g held d0; it holds d now. -/
structure SU (w0 : World) (g : Nat) (d0 d : Array Int) (W : World) : Prop where
  sz : d.size = d0.size
  sw : SW eU w0 g 0 d W
  R : Row1 eU w0 g 0 d0
section
variable {w0 W : World} {g : Nat} {d0 d : Array Int}
theorem SU.c (h : SU w0 g d0 d W) (i : Nat) (hi : i < d.size) : W.cell? ⟨g, i, none⟩ = some (.int .u64 d[i]!) := by
  have := h.sw.c1 h.R h.sz i hi
  rwa [Nat.zero_add] at this
theorem SU.z (h : SU w0 g d0 d W) (i : Nat) (hi : i < d.size) : W.frozen? ⟨g, i, none⟩ = false := by
  have := h.sw.f1 h.R h.sz i hi
  rwa [Nat.zero_add] at this
theorem SU.dr (h : SU w0 g d0 d W) (n : Nat) : SU w0 g d0 d (W.drewN n) := ⟨h.sz, h.sw.drewN n, h.R⟩
theorem SU.drw (h : SU w0 g d0 d W) : SU w0 g d0 d W.drew := h.dr 1
theorem SU.al (h : SU w0 g d0 d W) (o : Obj) : SU w0 g d0 d (W.alloc o) := ⟨h.sz, h.sw.alloc o, h.R⟩
theorem SU.new (h : SU w0 g d0 d W) (b o : Nat) (v : Value) (hb : w0.heap.size ≤ b) : SU w0 g d0 d (W.setCell ⟨b, o, none⟩ v) := ⟨h.sz, h.sw.setCell_new b o v hb, h.R⟩
theorem SU.le (h : SU w0 g d0 d W) : w0.heap.size ≤ W.heap.size := h.sw.le
theorem SU.gl (h : SU w0 g d0 d W) : g < w0.heap.size := h.R.hblk
theorem SU.c2 (h : SU w0 g d0 d W) (i j : Nat) (hi : i < d.size) (hj : j < d.size) (v : Value) : ∃ u, (W.setCell ⟨g, i, none⟩ v).cell? ⟨g, j, none⟩ = some u := by
  have := h.sw.c2 h.R h.sz i j hi hj v
  rwa [Nat.zero_add, Nat.zero_add] at this
theorem SU.swap (h : SU w0 g d0 d W) (i j : Nat) (hi : i < d.size) (hj : j < d.size) : SU w0 g d0 (swp d i j) ((W.setCell ⟨g, i, none⟩ (.int .u64 d[j]!)).setCell ⟨g, j, none⟩ (.int .u64 d[i]!)).drew := by
  have := h.sw.swapped h.R i j hi hj
  rw [Nat.zero_add, Nat.zero_add] at this
  exact ⟨by rw [size_swp]; exact h.sz, this, h.R⟩
theorem SU.start (hH : Holds eU w0 g 0 d0) (hg : g < w0.heap.size) : SU w0 g d0 d0 w0 := ⟨rfl, SW.start hH, ⟨one_eU, hH, hg⟩⟩
end

theorem ltI (x y : Int) : ltInt x y = decide (x < y) := rfl
set_option maxHeartbeats 1000000 in
theorem nan_any (x : Int) (w : World) : Calls Tryd.prog 52 #[.int .u64 x] w fun e w' => e = .returned (.bool false) ∧ w' = w := by
  go_enter Tryd.func52, Tryd.ntmps52
  go_wp2_with fail
  go_ret
  exact ⟨by simp, rfl⟩
set_option maxHeartbeats 1000000 in
theorem wless_any (x y : Int) (w : World) : Calls Tryd.prog 42 #[.int .u64 x, .int .u64 y] w fun e w' => e = .returned (.bool (ltInt x y)) ∧ w' = w := by
  rw [ltI]
  have h1 := nan_any x w
  have h2 := nan_any y w
  by_cases c : x < y
  · have c1 : decide (x < y) = true := decide_eq_true c
    rw [c1]
    go_enter Tryd.func42, Tryd.ntmps42
    go_wp2_with (first | (go_at_call 52; with_reducible refine h1.mono ?_; rintro e w' ⟨rfl, rfl⟩))
    go_ret
    exact ⟨rfl, rfl⟩
  · have c1 : decide (x < y) = false := decide_eq_false c
    rw [c1]
    go_enter Tryd.func42, Tryd.ntmps42
    go_wp2_with (first | (go_at_call 52; with_reducible refine h1.mono ?_; rintro e w' ⟨rfl, rfl⟩))
    go_ret
    exact ⟨rfl, rfl⟩

end Go.Proofs.YthkkcnnlfjchaaaDoor
