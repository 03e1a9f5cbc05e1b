/- The comparison that Rank hands to the sort, and the insertion sort of places. -/
import Derived.Test.YtpiekhiamdknjaaH2
import Derived.Test.YtpiekhiamdknjaaOrd
import Derived.Shelf.SlSortCmp.Insertion1
import Derived.Ground.SlsfProg
namespace Go.Proofs.Ytpiekhiamdknjaa
open Go.RowKit Go.Sort Go.Shelf Go.Lib

theorem hlt_swo : SWO (α := Int × Int) hlt := {
  irrefl := fun p => by simp [hlt, lessB]
  trans := fun p q r h1 h2 => by
    simp only [hlt, lessB, decide_eq_true_eq] at *
    generalize p.1 * p.1 + p.2 * p.2 = a at *
    generalize q.1 * q.1 + q.2 * q.2 = b at *
    generalize r.1 * r.1 + r.2 * r.2 = c at *
    omega
  ntrans := fun p q r h1 h2 => by
    simp only [hlt, lessB, decide_eq_false_iff_not] at *
    generalize p.1 * p.1 + p.2 * p.2 = a at *
    generalize q.1 * q.1 + q.2 * q.2 = b at *
    generalize r.1 * r.1 + r.2 * r.2 = c at *
    omega }

/-- n right heats lie in w from ⟨hb, ho⟩ on. -/
structure HS (w : World) (hb ho n : Nat) (A B : Nat → Nat) (h : Nat → Int × Int) : Prop where
  lt : hb < w.heap.size
  cell : ∀ i, i < n → w.cell? ⟨hb, ho + i, none⟩ = some (.complex .f64 (A i) (B i))
  fa : ∀ i, i < n → FI (A i) (h i).1
  fb : ∀ i, i < n → FI (B i) (h i).2
  rh : ∀ i, i < n → RH (h i).1 (h i).2

theorem Gr.cell {w w' : World} (g : Gr w w') {a : Addr} {v : Value} (hb : a.block < w.heap.size) (h : w.cell? a = some v) : w'.cell? a = some v := by
  obtain ⟨q, os, rfl⟩ := g
  rw [cell?_grow _ _ _ (by exact hb)]; exact h
theorem Gr.size {w w' : World} (g : Gr w w') : w.heap.size ≤ w'.heap.size := by
  obtain ⟨q, os, rfl⟩ := g
  rw [size_grow]; exact Nat.le_add_right _ _
theorem HS.gr {w w' : World} {hb ho n : Nat} {A B : Nat → Nat} {h : Nat → Int × Int} (H : HS w hb ho n A B h) (g : Gr w w') : HS w' hb ho n A B h :=
  ⟨Nat.lt_of_lt_of_le H.lt g.size, fun i hi => g.cell H.lt (H.cell i hi), H.fa, H.fb, H.rh⟩

set_option maxHeartbeats 1000000 in
theorem rank1_any (bb hb ho n cap x y : Nat) (A B : Nat → Nat) (h : Nat → Int × Int) (w : World) (H : HS w hb ho n A B h) (hbb : bb < w.heap.size) (hbx : w.cell? ⟨bb, 0, none⟩ = some (.slice (some ⟨hb, ho, none⟩) n cap)) (hx : x < n) (hy : y < n) :
    Calls Try.prog 23 #[.int .i64 x, .int .i64 y, .pointer (some ⟨bb, 0, none⟩)] w fun e w' => e = .returned (.int .i64 (hcmp (h x) (h y))) ∧ Gr w w' := by
  have mixed : Try.prog.follows .mixedOrders = true := by kernel_rfl
  have k1 := fun n os => cell_grown (w := w) (a := ⟨bb, 0, none⟩) hbb hbx n os
  have k2 := fun n os => cell_grown (w := w) (a := ⟨hb, ho + x, none⟩) H.lt (H.cell x hx) n os
  have k3 := fun n os => cell_grown (w := w) (a := ⟨hb, ho + y, none⟩) H.lt (H.cell y hy) n os
  have c1 : ∀ m os, Calls Try.prog 24 #[.complex .f64 (A x) (B x), .complex .f64 (A y) (B y)] (grow (w.drewN m) os) fun e w' => e = .returned (.int .i64 (hcmp (h x) (h y))) ∧ ∃ q os', w' = grow ((grow (w.drewN m) os).drewN q) os' :=
    fun m os => compare_any _ _ _ _ (h x) (h y) _ (H.fa x hx) (H.fb x hx) (H.fa y hy) (H.fb y hy) (H.rh x hx) (H.rh y hy)
  have z1 : (x : Int) < n := by omega
  have z2 : (y : Int) < n := by omega
  clear hbx H
  generalize hcmp (h x) (h y) = r at *
  go_enter Try.func23, Try.ntmps23
  go_wp2_with fail
  go_quiet_grown (first | (go_at_call 24; refine Calls.grown_of (c1 _ _)))
  go_wp2_with fail
  go_ret
  exact ⟨rfl, _, _, rfl⟩

end Go.Proofs.Ytpiekhiamdknjaa
