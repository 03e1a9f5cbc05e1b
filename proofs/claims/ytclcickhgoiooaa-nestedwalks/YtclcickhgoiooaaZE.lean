/- The document's walk: Begin, At. -/
import Derived.Test.YtclcickhgoiooaaZ3
import Derived.Test.YtclcickhgoiooaaZL
import Derived.Test.YtclcickhgoiooaaUS
import Derived.Test.YtclcickhgoiooaaJB
namespace Go.Proofs.Ytclcickhgoiooaa
open Go.RowKit
set_option maxRecDepth 10000

/-- The document's walk on its way lies in the block q. -/
structure RWk (W : World) (q : Nat) (s : Int) (t u : Nat) (L : List SV) (k : Int) (over : Bool) (v : Value) (w : World) : Prop where
  kp : Kp W w
  lo : W.heap.size ≤ q
  row : w.heap[q]? = some (.cells #[.int .i64 s, .int .u64 (t : Int), .int .u64 (u : Int), v, .int .i64 k, .bool over] 90)
  own : OL encS 95 9 w v L
  fo : ∀ g, v.ownBlock = some g → q < g
section
variable {W w w' : World} {q : Nat} {s : Int} {t u : Nat} {L : List SV} {k : Int} {over : Bool} {v : Value}
theorem RWk.keep (h : RWk W q s t u L k over v w) (g : Kp w w') : RWk W q s t u L k over v w' := ⟨h.kp.trans g, h.lo, (g.block _ (lt_of_row h.row)).trans h.row, OL.fr h.own (g.fr (fun _ => False)) (fun _ _ => id), h.fo⟩
theorem RWk.c0 (h : RWk W q s t u L k over v w) : w.cell? ⟨q, 0, none⟩ = some (.int .i64 s) := by rw [cell_of_row _ _ 0 _ _ _ h.row]; rfl
theorem RWk.c1 (h : RWk W q s t u L k over v w) : w.cell? ⟨q, 1, none⟩ = some (.int .u64 (t : Int)) := by rw [cell_of_row _ _ 1 _ _ _ h.row]; rfl
theorem RWk.c2 (h : RWk W q s t u L k over v w) : w.cell? ⟨q, 2, none⟩ = some (.int .u64 (u : Int)) := by rw [cell_of_row _ _ 2 _ _ _ h.row]; rfl
theorem RWk.c3 (h : RWk W q s t u L k over v w) : w.cell? ⟨q, 3, none⟩ = some v := by rw [cell_of_row _ _ 3 _ _ _ h.row]; rfl
theorem RWk.c4 (h : RWk W q s t u L k over v w) : w.cell? ⟨q, 4, none⟩ = some (.int .i64 k) := by rw [cell_of_row _ _ 4 _ _ _ h.row]; rfl
theorem RWk.c5 (h : RWk W q s t u L k over v w) : w.cell? ⟨q, 5, none⟩ = some (.bool over) := by rw [cell_of_row _ _ 5 _ _ _ h.row]; rfl
theorem RWk.fz (h : RWk W q s t u L k over v w) (j : Nat) : w.frozen? ⟨q, j, none⟩ = false := frozen_of_row w q j _ _ h.row
theorem RWk.shape (h : RWk W q s t u L k over v w) : ∃ na c, v = .slice na L.length c := by
  obtain ⟨na, cap, rfl, _⟩ := OL.form h.own
  exact ⟨_, _, rfl⟩
end

set_option maxHeartbeats 2000000 in
theorem begin_any (s : Int) (root u : Nat) (w : World) :
    Calls Try.prog 33 #[.int .i64 s, .int .u64 (root : Int), .int .u64 (u : Int)] w fun e w' => e = .returned (.pointer (some ⟨w.heap.size, 0, none⟩)) ∧ RWk w w.heap.size s root u [] 4 (decide (¬ (1 ≤ s ∧ s ≤ 2))) (.slice none 0 0) w' := by
  have fin : ∀ over, RWk w w.heap.size s root u [] 4 over (.slice none 0 0) (w.alloc (.cells #[.int .i64 s, .int .u64 (root : Int), .int .u64 (u : Int), .slice none 0 0, .int .i64 4, .bool over] 90)) := fun over =>
    ⟨(Kp.refl w).alloc _, Nat.le_refl _, heap_alloc_new w _, OL.nil _ _, (fun g h => by cases h)⟩
  have FIN : Aside (∀ over, RWk w w.heap.size s root u [] 4 over (.slice none 0 0) (w.alloc (.cells #[.int .i64 s, .int .u64 (root : Int), .int .u64 (u : Int), .slice none 0 0, .int .i64 4, .bool over] 90))) := fin
  clear fin
  by_cases c1 : s < 1
  · rw [decide_eq_true (by omega)]
    go_enter Try.func33, Try.ntmps33
    go_wp2
    go_ret
    exact ⟨rfl, FIN.out true⟩
  · by_cases c2 : 2 < s
    · rw [decide_eq_true (by omega)]
      go_enter Try.func33, Try.ntmps33
      go_wp2
      go_ret
      exact ⟨rfl, FIN.out true⟩
    · rw [decide_eq_false (by omega)]
      go_enter Try.func33, Try.ntmps33
      go_wp2
      go_ret
      exact ⟨rfl, FIN.out false⟩

set_option maxHeartbeats 2000000 in
theorem at_any {W w : World} {q : Nat} {s : Int} {t u : Nat} {L : List SV} {k : Int} {over : Bool} {v : Value} (h : RWk W q s t u L k over v w) (hu : u < 18446744073709551616) :
    Calls Try.prog 34 #[.pointer (some ⟨q, 0, none⟩)] w fun e w' => e = .returned (.int .u64 (atN t u L.length : Int)) ∧ Kp w w' := by
  obtain ⟨na, c, rfl⟩ := h.shape
  have c1 := h.c1
  have c2 := h.c2
  have c3 := h.c3
  obtain ⟨l, hl⟩ : ∃ l, L.length = l := ⟨_, rfl⟩
  rw [hl] at c3 ⊢
  have cI : ∀ w, Calls Try.prog 65 #[.int .u64 (u : Int), .int .i64 (l : Int)] w fun e w' => e = .returned (.int .i64 (idx u (l : Int) : Nat)) ∧ w' = w := fun w => rindex_any u l w hu
  have ei := idx_lt u l
  obtain ⟨p, hp⟩ : ∃ p, p = atN t u l := ⟨_, rfl⟩
  have e1 : IntKind.u64.wrap ((t : Int) + 8 * (idx u (l : Int) : Int)) = (p : Int) := by
    rw [hp]; unfold atN; simp [IntKind.wrap, IntKind.bits, IntKind.signed]
  have y1 : (idx u (l : Int) : Int) < 512 := by omega
  rw [← hp]
  clear h hp ei hu hl
  generalize idx u (l : Int) = ix at *
  go_enter Try.func34, Try.ntmps34
  go_wp2_with fail
  go_quiet (first | (go_at_call 65; refine Calls.quiet_of_same (cI _)))
  go_wp2
  go_ret
  exact ⟨rfl, (Kp.refl _).drewN _⟩

end Go.Proofs.Ytclcickhgoiooaa
