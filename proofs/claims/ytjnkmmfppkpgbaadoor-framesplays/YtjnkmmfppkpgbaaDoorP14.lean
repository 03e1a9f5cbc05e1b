/- The document's memory: New, bad, Has, Byte, Read. -/
import Derived.Test.YtjnkmmfppkpgbaaDoorP13
namespace Go.Proofs.YtjnkmmfppkpgbaaDoor
open Go.RowKit Go.Maps
set_option maxRecDepth 10000

structure RMat (w : World) (T : Nat → Prop) (q N ops : Nat) (na : Option Addr) (cap : Nat) (L : List (Nat × Nat)) : Prop where
  own : ∀ k, T k → k < w.heap.size
  sq : T q
  row : w.heap[q]? = some (.cells #[.int .i64 (N : Nat), .slice na L.length cap, .int .i64 (ops : Nat)] 62 (0, 0))
  sl : OL encP 95 2 w (.slice na L.length cap) L
  blk : ∀ g, (Value.slice na L.length cap).ownBlock = some g → T g ∧ g ≠ q
  n1 : 1 ≤ N
  n2 : N ≤ 1048576
/-- The list has just the bytes F. -/
structure Good (N : Nat) (F : Nat → Nat → Nat) (L : List (Nat × Nat)) : Prop where
  tidy : Tidy (N * 4096) L
  like : ∀ x i, i < 4096 → lk L (x * 4096 + i) = F x i
def RM (w : World) (T : Nat → Prop) (q N ops : Nat) (F : Nat → Nat → Nat) : Prop := ∃ na cap L, RMat w T q N ops na cap L ∧ Good N F L

theorem RMat.fr {w w' : World} {S T : Nat → Prop} {q N ops : Nat} {na : Option Addr} {cap : Nat} {L : List (Nat × Nat)} (h : RMat w T q N ops na cap L) (k : Fr S w w') (hT : ∀ i, T i → ¬ S i) : RMat w' T q N ops na cap L :=
  ⟨fun i hi => Nat.lt_of_lt_of_le (h.own i hi) k.size, h.sq, (k.block q (h.own q h.sq) (hT q h.sq)).trans h.row, h.sl.fr k (fun g hg => hT g (h.blk g hg).1), h.blk, h.n1, h.n2⟩
theorem RM.fr {w w' : World} {S T : Nat → Prop} {q N ops : Nat} {F : Nat → Nat → Nat} (h : RM w T q N ops F) (k : Fr S w w') (hT : ∀ i, T i → ¬ S i) : RM w' T q N ops F := by
  obtain ⟨na, cap, L, h, g⟩ := h
  exact ⟨na, cap, L, h.fr k hT, g⟩
theorem RM.kp {w w' : World} {T : Nat → Prop} {q N ops : Nat} {F : Nat → Nat → Nat} (h : RM w T q N ops F) (k : Kp w w') : RM w' T q N ops F := h.fr (k.fr (fun _ => False)) (fun _ _ => id)
theorem RM.own {w : World} {T : Nat → Prop} {q N ops : Nat} {F : Nat → Nat → Nat} (h : RM w T q N ops F) : ∀ i, T i → i < w.heap.size := by
  obtain ⟨na, cap, L, h, _⟩ := h
  exact h.own

section
variable {w : World} {T : Nat → Prop} {q N ops : Nat} {na : Option Addr} {cap : Nat} {L : List (Nat × Nat)}
theorem RMat.c0 (h : RMat w T q N ops na cap L) : w.cell? ⟨q, 0, none⟩ = some (.int .i64 (N : Nat)) := by rw [cell_of_row w q 0 _ _ _ h.row]; rfl
theorem RMat.c1 (h : RMat w T q N ops na cap L) : w.cell? ⟨q, 1, none⟩ = some (.slice na L.length cap) := by rw [cell_of_row w q 1 _ _ _ h.row]; rfl
theorem RMat.c2 (h : RMat w T q N ops na cap L) : w.cell? ⟨q, 2, none⟩ = some (.int .i64 (ops : Nat)) := by rw [cell_of_row w q 2 _ _ _ h.row]; rfl
theorem RMat.frz (h : RMat w T q N ops na cap L) (j : Nat) : w.frozen? ⟨q, j, none⟩ = false := frozen_of_row w q j _ _ h.row
/-- An element's two cells. -/
theorem RMat.at_ (h : RMat w T q N ops na cap L) {i : Nat} {p : Nat × Nat} (hi : L[i]? = some p) : ∃ g, na = some ⟨g, 0, none⟩ ∧ w.cell? ⟨g, i * 2, none⟩ = some (.int .u64 (p.1 : Nat)) ∧ w.cell? ⟨g, i * 2 + 1, none⟩ = some (.int .u8 (p.2 : Nat)) ∧ w.frozen? ⟨g, i * 2 + 1, none⟩ = false ∧ T g ∧ g ≠ q := by
  have hl := (List.getElem?_eq_some_iff.1 hi).1
  obtain ⟨na', cap', e, _, hh⟩ := h.sl.form
  cases e
  rcases hh with ⟨_, _, e0⟩ | ⟨g, e0, _⟩
  · rw [e0] at hl; simp at hl
  · subst e0
    have hb := h.blk g rfl
    exact ⟨g, rfl, h.sl.cell encP_enc (j := 0) hi rfl, h.sl.cell encP_enc (j := 1) hi rfl, h.sl.frz _, hb.1, hb.2⟩
end

set_option maxHeartbeats 1000000 in
theorem rnew_ok (n : Nat) (w : World) (h1 : 1 ≤ n) (h2 : n ≤ 1048576) :
    Calls Tryd.prog 9 #[.int .i64 (n : Int)] w fun e w' => ∃ q T, e = .returned (.tuple #[.pointer (some ⟨q, 0, none⟩), .int .i64 0]) ∧ RM w' T q n 0 (fun _ => z0) ∧ Kp w w' ∧ ∀ k, T k → w.heap.size ≤ k := by
  have z1 : (1 : Int) ≤ n := by omega
  have z2 : (n : Int) ≤ 1048576 := by omega
  go_enter Tryd.func9, Tryd.ntmps9
  go_wp2
  go_ret2
  refine ⟨w.heap.size, fun k => k = w.heap.size, rfl, ⟨none, 0, [], ⟨fun k hk => by subst hk; simp, rfl, heap_alloc_new w _, OL.nil _ _, fun g hg => (by cases hg), h1, h2⟩, ⟨⟨by simp, by simp⟩, fun _ _ _ => rfl⟩⟩, (Kp.refl w).alloc _, fun k hk => by subst hk; exact Nat.le_refl _⟩
theorem rnew_no (n : Int) (w : World) (h : n < 1 ∨ 1048576 < n) :
    Calls Tryd.prog 9 #[.int .i64 n] w fun e w' => e = .returned (.tuple #[.pointer none, .int .i64 1]) ∧ w' = w := by
  rcases h with h | h
  · go_enter Tryd.func9, Tryd.ntmps9
    go_wp2
    go_ret2
    exact ⟨rfl, rfl⟩
  · have h' : ¬ n < 1 := by omega
    go_enter Tryd.func9, Tryd.ntmps9
    go_wp2
    go_ret2
    exact ⟨rfl, rfl⟩

theorem rhas_cell (q N : Nat) (x : Int) (w : World) (c0 : w.cell? ⟨q, 0, none⟩ = some (.int .i64 (N : Nat))) :
    Calls Tryd.prog 48 #[.pointer (some ⟨q, 0, none⟩), .int .i64 x] w fun e w' => e = .returned (.bool (hasF N x)) ∧ w' = w := by
  unfold hasF
  by_cases e1 : 0 ≤ x
  · by_cases e2 : x < (N : Int)
    · rw [decide_eq_true ⟨e1, e2⟩]
      go_enter Tryd.func48, Tryd.ntmps48
      go_wp2
      go_ret
      exact ⟨rfl, rfl⟩
    · rw [decide_eq_false (by omega)]
      go_enter Tryd.func48, Tryd.ntmps48
      go_wp2
      go_ret
      exact ⟨rfl, rfl⟩
  · rw [decide_eq_false (by omega)]
    go_enter Tryd.func48, Tryd.ntmps48
    go_wp2
    go_ret
    exact ⟨rfl, rfl⟩

set_option maxHeartbeats 1000000 in
set_option maxRecDepth 10000 in
theorem rbad_1 (q N E addr : Nat) (w : World) (c0 : w.cell? ⟨q, 0, none⟩ = some (.int .i64 (N : Nat))) (hN : N ≤ 1048576) (z2 : (N : Int) * 4096 = (E : Int)) :
    Calls Tryd.prog 43 #[.pointer (some ⟨q, 0, none⟩), .int .u64 (addr : Int), .int .i64 1] w fun e w' => e = .returned (.int .i64 (chkP N addr 1)) ∧ w' = w := by
  have z1 : (N : Int) ≤ 1048576 := by omega
  have z3 : (E : Int) ≤ 4294967296 := by omega
  have e0 : chkP N addr 1 = if addr % 1 ≠ 0 then 3 else if N ≤ addr / 4096 then 2 else 0 := by unfold chkP; rw [if_neg (by omega)]; rfl
  by_cases c1 : addr % 1 = 0
  · have y1 : (addr : Int) % 1 = 0 := by omega
    by_cases c2 : N ≤ addr / 4096
    · have y2 : (E : Int) ≤ (addr : Int) := by omega
      have hr : chkP N addr 1 = 2 := by rw [e0, if_neg (by omega), if_pos c2]
      clear e0 c1 c2
      go_enter Tryd.func43, Tryd.ntmps43
      go_wp2
      go_ret
      exact ⟨by first | (rw [hr]; rfl) | rfl, rfl⟩
    · have y2 : ¬ (E : Int) ≤ (addr : Int) := by omega
      have hr : chkP N addr 1 = 0 := by rw [e0, if_neg (by omega), if_neg c2]
      clear e0 c1 c2
      go_enter Tryd.func43, Tryd.ntmps43
      go_wp2
      go_ret
      exact ⟨by first | (rw [hr]; rfl) | rfl, rfl⟩
  · exact absurd (Nat.mod_one addr) c1

set_option maxHeartbeats 1000000 in
set_option maxRecDepth 10000 in
theorem rbad_2 (q N E addr : Nat) (w : World) (c0 : w.cell? ⟨q, 0, none⟩ = some (.int .i64 (N : Nat))) (hN : N ≤ 1048576) (z2 : (N : Int) * 4096 = (E : Int)) :
    Calls Tryd.prog 43 #[.pointer (some ⟨q, 0, none⟩), .int .u64 (addr : Int), .int .i64 2] w fun e w' => e = .returned (.int .i64 (chkP N addr 2)) ∧ w' = w := by
  have z1 : (N : Int) ≤ 1048576 := by omega
  have z3 : (E : Int) ≤ 4294967296 := by omega
  have e0 : chkP N addr 2 = if addr % 2 ≠ 0 then 3 else if N ≤ addr / 4096 then 2 else 0 := by unfold chkP; rw [if_neg (by omega)]; rfl
  by_cases c1 : addr % 2 = 0
  · have y1 : (addr : Int) % 2 = 0 := by omega
    by_cases c2 : N ≤ addr / 4096
    · have y2 : (E : Int) ≤ (addr : Int) := by omega
      have hr : chkP N addr 2 = 2 := by rw [e0, if_neg (by omega), if_pos c2]
      clear e0 c1 c2
      go_enter Tryd.func43, Tryd.ntmps43
      go_wp2
      go_ret
      exact ⟨by first | (rw [hr]; rfl) | rfl, rfl⟩
    · have y2 : ¬ (E : Int) ≤ (addr : Int) := by omega
      have hr : chkP N addr 2 = 0 := by rw [e0, if_neg (by omega), if_neg c2]
      clear e0 c1 c2
      go_enter Tryd.func43, Tryd.ntmps43
      go_wp2
      go_ret
      exact ⟨by first | (rw [hr]; rfl) | rfl, rfl⟩
  · have y1 : ¬ (addr : Int) % 2 = 0 := by omega
    have hr : chkP N addr 2 = 3 := by rw [e0, if_pos (by omega)]
    clear e0 c1 z2
    go_enter Tryd.func43, Tryd.ntmps43
    go_wp2
    go_ret
    exact ⟨by first | (rw [hr]; rfl) | rfl, rfl⟩

set_option maxHeartbeats 1000000 in
set_option maxRecDepth 10000 in
theorem rbad_4 (q N E addr : Nat) (w : World) (c0 : w.cell? ⟨q, 0, none⟩ = some (.int .i64 (N : Nat))) (hN : N ≤ 1048576) (z2 : (N : Int) * 4096 = (E : Int)) :
    Calls Tryd.prog 43 #[.pointer (some ⟨q, 0, none⟩), .int .u64 (addr : Int), .int .i64 4] w fun e w' => e = .returned (.int .i64 (chkP N addr 4)) ∧ w' = w := by
  have z1 : (N : Int) ≤ 1048576 := by omega
  have z3 : (E : Int) ≤ 4294967296 := by omega
  have e0 : chkP N addr 4 = if addr % 4 ≠ 0 then 3 else if N ≤ addr / 4096 then 2 else 0 := by unfold chkP; rw [if_neg (by omega)]; rfl
  by_cases c1 : addr % 4 = 0
  · have y1 : (addr : Int) % 4 = 0 := by omega
    by_cases c2 : N ≤ addr / 4096
    · have y2 : (E : Int) ≤ (addr : Int) := by omega
      have hr : chkP N addr 4 = 2 := by rw [e0, if_neg (by omega), if_pos c2]
      clear e0 c1 c2
      go_enter Tryd.func43, Tryd.ntmps43
      go_wp2
      go_ret
      exact ⟨by first | (rw [hr]; rfl) | rfl, rfl⟩
    · have y2 : ¬ (E : Int) ≤ (addr : Int) := by omega
      have hr : chkP N addr 4 = 0 := by rw [e0, if_neg (by omega), if_neg c2]
      clear e0 c1 c2
      go_enter Tryd.func43, Tryd.ntmps43
      go_wp2
      go_ret
      exact ⟨by first | (rw [hr]; rfl) | rfl, rfl⟩
  · have y1 : ¬ (addr : Int) % 4 = 0 := by omega
    have hr : chkP N addr 4 = 3 := by rw [e0, if_pos (by omega)]
    clear e0 c1 z2
    go_enter Tryd.func43, Tryd.ntmps43
    go_wp2
    go_ret
    exact ⟨by first | (rw [hr]; rfl) | rfl, rfl⟩

set_option maxHeartbeats 1000000 in
set_option maxRecDepth 10000 in
theorem rbad_8 (q N E addr : Nat) (w : World) (c0 : w.cell? ⟨q, 0, none⟩ = some (.int .i64 (N : Nat))) (hN : N ≤ 1048576) (z2 : (N : Int) * 4096 = (E : Int)) :
    Calls Tryd.prog 43 #[.pointer (some ⟨q, 0, none⟩), .int .u64 (addr : Int), .int .i64 8] w fun e w' => e = .returned (.int .i64 (chkP N addr 8)) ∧ w' = w := by
  have z1 : (N : Int) ≤ 1048576 := by omega
  have z3 : (E : Int) ≤ 4294967296 := by omega
  have e0 : chkP N addr 8 = if addr % 8 ≠ 0 then 3 else if N ≤ addr / 4096 then 2 else 0 := by unfold chkP; rw [if_neg (by omega)]; rfl
  by_cases c1 : addr % 8 = 0
  · have y1 : (addr : Int) % 8 = 0 := by omega
    by_cases c2 : N ≤ addr / 4096
    · have y2 : (E : Int) ≤ (addr : Int) := by omega
      have hr : chkP N addr 8 = 2 := by rw [e0, if_neg (by omega), if_pos c2]
      clear e0 c1 c2
      go_enter Tryd.func43, Tryd.ntmps43
      go_wp2
      go_ret
      exact ⟨by first | (rw [hr]; rfl) | rfl, rfl⟩
    · have y2 : ¬ (E : Int) ≤ (addr : Int) := by omega
      have hr : chkP N addr 8 = 0 := by rw [e0, if_neg (by omega), if_neg c2]
      clear e0 c1 c2
      go_enter Tryd.func43, Tryd.ntmps43
      go_wp2
      go_ret
      exact ⟨by first | (rw [hr]; rfl) | rfl, rfl⟩
  · have y1 : ¬ (addr : Int) % 8 = 0 := by omega
    have hr : chkP N addr 8 = 3 := by rw [e0, if_pos (by omega)]
    clear e0 c1 z2
    go_enter Tryd.func43, Tryd.ntmps43
    go_wp2
    go_ret
    exact ⟨by first | (rw [hr]; rfl) | rfl, rfl⟩

set_option maxHeartbeats 1000000 in
set_option maxRecDepth 10000 in
theorem rbad_any (q N addr : Nat) (size : Int) (w : World) (c0 : w.cell? ⟨q, 0, none⟩ = some (.int .i64 (N : Nat))) (hN : N ≤ 1048576) :
    Calls Tryd.prog 43 #[.pointer (some ⟨q, 0, none⟩), .int .u64 (addr : Int), .int .i64 size] w fun e w' => e = .returned (.int .i64 (chkP N addr size)) ∧ w' = w := by
  have z : (N : Int) * 4096 = ((N * 4096 : Nat) : Int) := by omega
  by_cases c1 : size = 1
  · subst c1; exact rbad_1 q N _ addr w c0 hN z
  by_cases c2 : size = 2
  · subst c2; exact rbad_2 q N _ addr w c0 hN z
  by_cases c4 : size = 4
  · subst c4; exact rbad_4 q N _ addr w c0 hN z
  by_cases c8 : size = 8
  · subst c8; exact rbad_8 q N _ addr w c0 hN z
  rw [show chkP N addr size = 1 from if_pos ⟨c1, c2, c4, c8⟩]
  have b1 : (size != 1) = true := by simp [c1]
  have b2 : (size != 2) = true := by simp [c2]
  have b4 : (size != 4) = true := by simp [c4]
  have b8 : (size != 8) = true := by simp [c8]
  clear z
  go_enter Tryd.func43, Tryd.ntmps43
  go_wp2
  go_ret
  exact ⟨rfl, rfl⟩

end Go.Proofs.YtjnkmmfppkpgbaaDoor
