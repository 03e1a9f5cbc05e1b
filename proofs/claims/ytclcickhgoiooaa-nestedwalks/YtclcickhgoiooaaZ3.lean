/- walk: walks that read nothing; Out, the document's Out; told. -/
import Derived.Test.YtclcickhgoiooaaZ2
import Derived.Test.YtclcickhgoiooaaKB
namespace Go.Proofs.Ytclcickhgoiooaa
open Go.RowKit
set_option maxRecDepth 10000

theorem walk_bad (s : Int) (hs : ¬ (1 ≤ s ∧ s ≤ 2)) (root u : Int) (v : Value) (w : World) :
    Calls Try.prog 74 #[.int .i64 s, .int .u64 root, .int .u64 u, v] w fun e w' => e = .returned (.tuple #[.slice none 0 0, .int .i64 4]) ∧ w' = w := by
  have c1 := top_any s
  rw [show topS s = 0 from by unfold topS; rw [if_neg (by omega), if_neg (by omega)]] at c1
  go_enter Try.func74, Try.ntmps74
  go_wp2_with fail
  refine wp_scope_jumps 0 (fun _ _ => False) (fun _ _ => 0) rfl ?_ (fun _ _ h => h.elim)
  go_wp2_with (go_at_call 81; with_reducible refine (c1 _).mono ?_; rintro e w1 ⟨rfl, rfl⟩)
  simp only [Exit.jump]
  go_ret2
  exact ⟨rfl, rfl⟩

set_option maxHeartbeats 4000000 in
theorem walk_nil (s : Int) (hs : 1 ≤ s ∧ s ≤ 2) (root u : Nat) (hu : u < 18446744073709551616) (w : World) :
    Calls Try.prog 74 #[.int .i64 s, .int .u64 (root : Int), .int .u64 (u : Int), .nilFunc] w fun e w' => e = .returned (.tuple #[.slice (some ⟨w.heap.size, 0, none⟩) 0 4, .int .i64 (-1)]) ∧ Kp w w' := by
  have c1 := top_any s
  have t1 : ((topS s : Int) == 0) = false := by
    rw [beq_eq_false_iff_ne]; unfold topS
    rcases (by omega : s = 1 ∨ s = 2) with rfl | rfl <;> decide
  generalize topS s = tp at *
  have hmk : ∀ w : World, (Instr.makeSlice 132 (.int .i64 0) (.int .i64 4)).run Try.prog w = .ok (.slice (some ⟨w.heap.size, 0, none⟩) 0 4) (w.alloc rowS) := make_steps
  have c2 : ∀ w, Calls Try.prog 82 #[.int .u64 (u : Int), .int .i64 0] w fun e w' => e = .returned (.int .i64 (idx u 0 : Nat)) ∧ Dr w w' := fun w => index_any u 0 w hu
  have ei : idx u 0 < 512 := idx_lt u 0
  obtain ⟨p, hp⟩ : ∃ p, p = atN root u 0 := ⟨_, rfl⟩
  have e1 : IntKind.u64.wrap ((root : Int) + 8 * (idx u 0 : Int)) = (p : Int) := by
    rw [hp]; unfold atN; simp [IntKind.wrap, IntKind.bits, IntKind.signed]
  have y1 : (idx u 0 : Int) < 512 := by omega
  have c3 := fun w => ask_nil (p : Int) w
  clear hp ei
  generalize idx u 0 = ix at *
  go_enter Try.func74, Try.ntmps74
  go_wp2_with fail
  refine wp_scope_jumps 0 (fun _ _ => False) (fun _ _ => 0) rfl ?_ (fun _ _ h => h.elim)
  go_wp2_with (go_at_call 81; with_reducible refine (c1 _).mono ?_; rintro e w1 ⟨rfl, rfl⟩)
  go_step3
  rename_i hK
  refine hK _ _ ?_
  clear hK
  go_wp2_with fail
  with_reducible refine (c2 _).mono ?_
  rintro e w2 ⟨rfl, D⟩
  have HK : Hid (Kp w1 w2) := ((Kp.refl w1).alloc _).trans D.kp
  clear D
  go_wp2_with fail
  with_reducible refine (c3 _).mono ?_
  rintro e w3 ⟨rfl, K⟩
  have HK3 : Hid (Kp w1 w3) := HK.out.trans K
  clear K
  go_wp2_with fail
  simp only [Exit.jump]
  go_ret2
  exact ⟨rfl, HK3.out⟩

/-- Where a step leads. -/
def inN (u : Nat) (l : Int) : Nat := if spn l = 0 then 0 else u % spn l
def outN (u : Nat) (l k : Int) (a : Nat) : Nat := if k = 2 ∨ k = 3 then (a + inN u l) % 18446744073709551616 else 0
theorem within_any (u : Nat) (l : Int) (w : World) : Calls Try.prog 64 #[.int .u64 (u : Int), .int .i64 l] w fun e w' => e = .returned (.int .u64 (inN u l : Int)) ∧ w' = w := by
  have c1 := span_any l
  unfold inN
  generalize spn l = n at *
  by_cases c : n = 0
  · subst c
    rw [if_pos rfl]
    go_enter Try.func64, Try.ntmps64
    go_wp2_with (go_at_call 78; with_reducible refine (c1 _).mono ?_; rintro e w' ⟨rfl, rfl⟩)
    go_ret
    exact ⟨rfl, rfl⟩
  · rw [if_neg c]
    have y1 : ((n : Int) == 0) = false := by rw [beq_eq_false_iff_ne]; omega
    have y2 : ¬ (n : Int) = 0 := by omega
    have y3 : (u : Int).tmod (n : Int) = ((u % n : Nat) : Int) := by rw [Int.tmod_eq_emod_of_nonneg (by omega)]; simp
    have y4 : (u : Int) % (n : Int) = ((u % n : Nat) : Int) := by simp
    generalize u % n = m at *
    go_enter Try.func64, Try.ntmps64
    go_wp2_with (go_at_call 78; with_reducible refine (c1 _).mono ?_; rintro e w' ⟨rfl, rfl⟩)
    go_ret
    exact ⟨rfl, rfl⟩

/-- A step lies in the block b. -/
def SX (w : World) (b : Nat) (t : TypeId) (l p v k a : Int) (r q x : Bool) (f : Int) : Prop := w.heap[b]? = some (.cells #[.int .i64 l, .int .u64 p, .int .u64 v, .int .i64 k, .int .u64 a, .bool r, .bool q, .bool x, .int .i64 f] t)
section
variable {w w' : World} {b : Nat} {t : TypeId} {l p v k a : Int} {r q x : Bool} {f : Int}
theorem SX.c0 (h : SX w b t l p v k a r q x f) : w.cell? ⟨b, 0, none⟩ = some (.int .i64 l) := by rw [cell_of_row _ _ 0 _ _ _ h]; rfl
theorem SX.c3 (h : SX w b t l p v k a r q x f) : w.cell? ⟨b, 3, none⟩ = some (.int .i64 k) := by rw [cell_of_row _ _ 3 _ _ _ h]; rfl
theorem SX.c4 (h : SX w b t l p v k a r q x f) : w.cell? ⟨b, 4, none⟩ = some (.int .u64 a) := by rw [cell_of_row _ _ 4 _ _ _ h]; rfl
theorem SX.lt (h : SX w b t l p v k a r q x f) : b < w.heap.size := (Array.getElem?_eq_some_iff.1 h).1
theorem SX.kp (h : SX w b t l p v k a r q x f) (g : Kp w w') : SX w' b t l p v k a r q x f := (g.block b h.lt).trans h
end

theorem add_word (a m : Nat) : IntKind.u64.wrap ((a : Int) + (m : Int)) = (((a + m) % 18446744073709551616 : Nat) : Int) := by
  simp [IntKind.wrap, IntKind.bits, IntKind.signed]

set_option maxHeartbeats 4000000 in
theorem out_any (u a : Nat) (l p v k : Int) (r q x : Bool) (f : Int) (w : World) :
    Calls Try.prog 31 #[.int .u64 (u : Int), .agg #[.int .i64 l, .int .u64 p, .int .u64 v, .int .i64 k, .int .u64 (a : Int), .bool r, .bool q, .bool x, .int .i64 f]] w fun e w' => e = .returned (.int .u64 (outN u l k a : Int)) ∧ Kp w w' := by
  unfold outN
  by_cases c : k = 2 ∨ k = 3
  · rw [if_pos c]
    have c1 := within_any u l
    have e1 := add_word a (inN u l)
    generalize inN u l = m at *
    generalize (a + m) % 18446744073709551616 = z at *
    rcases c with rfl | rfl
    all_goals
      go_enter Try.func31, Try.ntmps31
      go_wp2_with fail
      go_quiet (first | (go_at_call 64; refine Calls.quiet_of_same (c1 _)))
      go_wp2
      go_ret
      exact ⟨rfl, ((Kp.refl _).alloc _).drewN _⟩
  · rw [if_neg c]
    have d2 : (k != 2) = true := by rw [bne_iff_ne]; omega
    have d3 : (k != 3) = true := by rw [bne_iff_ne]; omega
    go_enter Try.func31, Try.ntmps31
    go_wp2
    go_ret
    exact ⟨rfl, (Kp.refl _).alloc _⟩

set_option maxHeartbeats 4000000 in
theorem rout_any (u a : Nat) (l p v k : Int) (r q x : Bool) (f : Int) (w : World) (ha : a < 18446744073709551616) :
    Calls Try.prog 38 #[.int .u64 (u : Int), .agg #[.int .i64 l, .int .u64 p, .int .u64 v, .int .i64 k, .int .u64 (a : Int), .bool r, .bool q, .bool x, .int .i64 f]] w fun e w' => e = .returned (.int .u64 (outN u l k a : Int)) ∧ Kp w w' := by
  unfold outN
  by_cases c : k = 2 ∨ k = 3
  · rw [if_pos c]
    have c1 := rspan_any l
    unfold inN
    generalize spn l = n at *
    by_cases n0 : n = 0
    · subst n0
      rw [if_pos rfl, Nat.add_zero, Nat.mod_eq_of_lt ha]
      clear ha
      rcases c with rfl | rfl
      all_goals
        go_enter Try.func38, Try.ntmps38
        go_wp2_with (go_at_call 59; with_reducible refine (c1 _).mono ?_; rintro e w' ⟨rfl, rfl⟩)
        go_ret
        exact ⟨rfl, (Kp.refl _).alloc _⟩
    · rw [if_neg n0]
      have y1 : ((n : Int) == 0) = false := by rw [beq_eq_false_iff_ne]; omega
      have y2 : ¬ (n : Int) = 0 := by omega
      have y3 : (u : Int).tmod (n : Int) = ((u % n : Nat) : Int) := by rw [Int.tmod_eq_emod_of_nonneg (by omega)]; simp
      have y4 : (u : Int) % (n : Int) = ((u % n : Nat) : Int) := by simp
      have e1 := add_word a (u % n)
      generalize u % n = m at *
      generalize (a + m) % 18446744073709551616 = z at *
      clear ha
      rcases c with rfl | rfl
      all_goals
        go_enter Try.func38, Try.ntmps38
        go_wp2_with (go_at_call 59; with_reducible refine (c1 _).mono ?_; rintro e w' ⟨rfl, rfl⟩)
        go_quiet (fail)
        go_wp2
        go_ret
        exact ⟨rfl, ((Kp.refl _).alloc _).drewN _⟩
  · rw [if_neg c]
    have d2 : (k != 2) = true := by rw [bne_iff_ne]; omega
    have d3 : (k != 3) = true := by rw [bne_iff_ne]; omega
    go_enter Try.func38, Try.ntmps38
    go_wp2
    go_ret
    exact ⟨rfl, (Kp.refl _).alloc _⟩

/-- told's reader. -/
def rdT : Nat → Nat × Bool := fun _ => (4099, true)
theorem t_walk : goW 1 0 rdT 4 0 4096 = ([⟨0, 4096, 4099, ⟨1, 4096, false, false, false, 0⟩⟩, ⟨1, 4096, 4099, ⟨1, 4096, false, false, false, 0⟩⟩, ⟨2, 4096, 4099, ⟨1, 4096, false, false, false, 0⟩⟩, ⟨3, 4096, 4099, ⟨3, 4096, false, false, false, 0⟩⟩], 0, 4) := by kernel_rfl
theorem t_out : outN 4660 3 3 4096 = 4660 := by decide +kernel

theorem WL.cell {w : World} {b : Nat} {L : List SV} (h : WL w b L) {i j : Nat} {x : SV} {y : Value} (hi : L[i]? = some x) (hy : (encS x)[j]? = some y) : w.cell? ⟨b, i * 9 + j, none⟩ = some y := OL.cell encS_ok h hi hy

end Go.Proofs.Ytclcickhgoiooaa
