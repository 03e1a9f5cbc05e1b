/- Joined: KB, Z3, B2, B3. -/
import Derived.Test.YtanlcmdnhhdhaaaGreatDoorJ00
import Derived.BigQuiet
import Derived.Test.YtanlcmdnhhdhaaaGreatDoorZ2
import Derived.WalkMore
import Derived.ScopeJumps
/- Regions that draw their order and only read, whose callees lay blocks of their own. -/
namespace Go.Proofs.YtanlcmdnhhdhaaaGreatDoor
open Go.RowKit

theorem mixed : Tryz.prog.follows .mixedOrders = true := by kernel_rfl
/-- A world in which all that lay in w lies. -/
structure KeptBy (w : World) where
  v : World
  k : Kp w v

theorem KeptBy.some {w : World} : Nonempty (KeptBy w) := ⟨⟨w, Kp.refl w⟩⟩

theorem wp_region_kept {P : Program} {id : Nat} {Q : Exit → Act → World → Prop} {a : Act} {w : World} {l : List Oper} (hm : P.follows .mixedOrders = true) (hB : Region.lexB .any l.toArray = true)
    (h : wpQuiet P l.toArray (fun w' => ∃ p : KeptBy w, w' = p.v) (fun a' => ∀ w', (∃ p : KeptBy w, w' = p.v) → Q .normal a' w') l a) : (Code.region id l.toArray true).wp P Q a w :=
  wp_region_quiet (C := fun w' => ∃ p : KeptBy w, w' = p.v) hm hB ⟨⟨w.drew, (Kp.refl w).drew⟩, rfl⟩ (by simpa using h)
theorem Calls.kept_of {P : Program} {f : FuncId} {args : Array Value} {w : World} {p : KeptBy w} {v : Value}
    (h : Calls P f args p.v fun e w' => e = .returned v ∧ Kp p.v w') : Calls P f args p.v fun e w'' => e = .returned v ∧ ∃ q : KeptBy w, w'' = q.v :=
  h.mono fun _ w' ⟨he, hk⟩ => ⟨he, ⟨w', p.k.trans hk⟩, rfl⟩

end Go.Proofs.YtanlcmdnhhdhaaaGreatDoor

/- walk: walks that read nothing; Out, the document's Out; told. -/
namespace Go.Proofs.YtanlcmdnhhdhaaaGreatDoor
open Go.RowKit
set_option maxRecDepth 10000

theorem walk_bad (s : Int) (hs : ¬ (1 ≤ s ∧ s ≤ 2)) (root u : Int) (v : Value) (w : World) :
    Calls Tryz.prog 14 #[.int .i64 s, .int .u64 root, .int .u64 u, v] w fun e w' => e = .returned (.tuple #[.slice none 0 0, .int .i64 4]) ∧ w' = w := by
  have c1 := top_any s
  rw [show topS s = 0 from by unfold topS; rw [if_neg (by omega), if_neg (by omega)]] at c1
  go_enter Tryz.func14, Tryz.ntmps14
  go_wp2_with fail
  refine wp_scope_jumps 0 (fun _ _ => False) (fun _ _ => 0) rfl ?_ (fun _ _ h => h.elim)
  go_wp2_with (go_at_call 46; with_reducible refine (c1 _).mono ?_; rintro e w1 ⟨rfl, rfl⟩)
  simp only [Exit.jump]
  go_ret2
  exact ⟨rfl, rfl⟩

set_option maxHeartbeats 4000000 in
theorem walk_nil (s : Int) (hs : 1 ≤ s ∧ s ≤ 2) (root u : Nat) (hu : u < 18446744073709551616) (w : World) :
    Calls Tryz.prog 14 #[.int .i64 s, .int .u64 (root : Int), .int .u64 (u : Int), .nilFunc] w fun e w' => e = .returned (.tuple #[.slice (some ⟨w.heap.size, 0, none⟩) 0 4, .int .i64 (-1)]) ∧ Kp w w' := by
  have c1 := top_any s
  have t1 : ((topS s : Int) == 0) = false := by
    rw [beq_eq_false_iff_ne]; unfold topS
    rcases (by omega : s = 1 ∨ s = 2) with rfl | rfl <;> decide
  generalize topS s = tp at *
  have hmk : ∀ w : World, (Instr.makeSlice 50 (.int .i64 0) (.int .i64 4)).run Tryz.prog w = .ok (.slice (some ⟨w.heap.size, 0, none⟩) 0 4) (w.alloc rowS) := make_steps
  have c2 : ∀ w, Calls Tryz.prog 47 #[.int .u64 (u : Int), .int .i64 0] w fun e w' => e = .returned (.int .i64 (idx u 0 : Nat)) ∧ Dr w w' := fun w => index_any u 0 w hu
  have ei : idx u 0 < 512 := idx_lt u 0
  obtain ⟨p, hp⟩ : ∃ p, p = atN root u 0 := ⟨_, rfl⟩
  have e1 : IntKind.u64.wrap ((root : Int) + 8 * (idx u 0 : Int)) = (p : Int) := by
    rw [hp]; unfold atN; simp [IntKind.wrap, IntKind.bits, IntKind.signed]
  have y1 : (idx u 0 : Int) < 512 := by omega
  have c3 := fun w => ask_nil (p : Int) w
  clear hp ei
  generalize idx u 0 = ix at *
  go_enter Tryz.func14, Tryz.ntmps14
  go_wp2_with fail
  refine wp_scope_jumps 0 (fun _ _ => False) (fun _ _ => 0) rfl ?_ (fun _ _ h => h.elim)
  go_wp2_with (go_at_call 46; with_reducible refine (c1 _).mono ?_; rintro e w1 ⟨rfl, rfl⟩)
  go_step3
  rename_i hK
  refine hK _ _ ?_
  clear hK
  go_wp2_with fail
  with_reducible refine (c2 _).mono ?_
  rintro e w2 ⟨rfl, D⟩
  have HK : Hid (Kp w1 w2) := ((Kp.refl w1).alloc _).trans D.kp
  clear D
  go_wp2_with fail
  with_reducible refine (c3 _).mono ?_
  rintro e w3 ⟨rfl, K⟩
  have HK3 : Hid (Kp w1 w3) := HK.out.trans K
  clear K
  go_wp2_with fail
  simp only [Exit.jump]
  go_ret2
  exact ⟨rfl, HK3.out⟩

/-- Where a step leads. -/
def inN (u : Nat) (l : Int) : Nat := if spn l = 0 then 0 else u % spn l
def outN (u : Nat) (l k : Int) (a : Nat) : Nat := if k = 2 ∨ k = 3 then (a + inN u l) % 18446744073709551616 else 0
theorem within_any (u : Nat) (l : Int) (w : World) : Calls Tryz.prog 57 #[.int .u64 (u : Int), .int .i64 l] w fun e w' => e = .returned (.int .u64 (inN u l : Int)) ∧ w' = w := by
  have c1 := span_any l
  unfold inN
  generalize spn l = n at *
  by_cases c : n = 0
  · subst c
    rw [if_pos rfl]
    go_enter Tryz.func57, Tryz.ntmps57
    go_wp2_with (go_at_call 93; with_reducible refine (c1 _).mono ?_; rintro e w' ⟨rfl, rfl⟩)
    go_ret
    exact ⟨rfl, rfl⟩
  · rw [if_neg c]
    have y1 : ((n : Int) == 0) = false := by rw [beq_eq_false_iff_ne]; omega
    have y2 : ¬ (n : Int) = 0 := by omega
    have y3 : (u : Int).tmod (n : Int) = ((u % n : Nat) : Int) := by rw [Int.tmod_eq_emod_of_nonneg (by omega)]; simp
    have y4 : (u : Int) % (n : Int) = ((u % n : Nat) : Int) := by simp
    generalize u % n = m at *
    go_enter Tryz.func57, Tryz.ntmps57
    go_wp2_with (go_at_call 93; with_reducible refine (c1 _).mono ?_; rintro e w' ⟨rfl, rfl⟩)
    go_ret
    exact ⟨rfl, rfl⟩

/-- A step lies in the block b. -/
def SX (w : World) (b : Nat) (t : TypeId) (l p v k a : Int) (r q x : Bool) (f : Int) : Prop := w.heap[b]? = some (.cells #[.int .i64 l, .int .u64 p, .int .u64 v, .int .i64 k, .int .u64 a, .bool r, .bool q, .bool x, .int .i64 f] t)
section
variable {w w' : World} {b : Nat} {t : TypeId} {l p v k a : Int} {r q x : Bool} {f : Int}
theorem SX.c0 (h : SX w b t l p v k a r q x f) : w.cell? ⟨b, 0, none⟩ = some (.int .i64 l) := by rw [cell_of_row _ _ 0 _ _ _ h]; rfl
theorem SX.c3 (h : SX w b t l p v k a r q x f) : w.cell? ⟨b, 3, none⟩ = some (.int .i64 k) := by rw [cell_of_row _ _ 3 _ _ _ h]; rfl
theorem SX.c4 (h : SX w b t l p v k a r q x f) : w.cell? ⟨b, 4, none⟩ = some (.int .u64 a) := by rw [cell_of_row _ _ 4 _ _ _ h]; rfl
theorem SX.lt (h : SX w b t l p v k a r q x f) : b < w.heap.size := (Array.getElem?_eq_some_iff.1 h).1
theorem SX.kp (h : SX w b t l p v k a r q x f) (g : Kp w w') : SX w' b t l p v k a r q x f := (g.block b h.lt).trans h
end

theorem add_word (a m : Nat) : IntKind.u64.wrap ((a : Int) + (m : Int)) = (((a + m) % 18446744073709551616 : Nat) : Int) := by
  simp [IntKind.wrap, IntKind.bits, IntKind.signed]

set_option maxHeartbeats 4000000 in
theorem out_any (u a : Nat) (l p v k : Int) (r q x : Bool) (f : Int) (w : World) :
    Calls Tryz.prog 19 #[.int .u64 (u : Int), .agg #[.int .i64 l, .int .u64 p, .int .u64 v, .int .i64 k, .int .u64 (a : Int), .bool r, .bool q, .bool x, .int .i64 f]] w fun e w' => e = .returned (.int .u64 (outN u l k a : Int)) ∧ Kp w w' := by
  unfold outN
  by_cases c : k = 2 ∨ k = 3
  · rw [if_pos c]
    have c1 := within_any u l
    have e1 := add_word a (inN u l)
    generalize inN u l = m at *
    generalize (a + m) % 18446744073709551616 = z at *
    rcases c with rfl | rfl
    all_goals
      go_enter Tryz.func19, Tryz.ntmps19
      go_wp2_with fail
      go_quiet (first | (go_at_call 57; refine Calls.quiet_of_same (c1 _)))
      go_wp2
      go_ret
      exact ⟨rfl, ((Kp.refl _).alloc _).drewN _⟩
  · rw [if_neg c]
    have d2 : (k != 2) = true := by rw [bne_iff_ne]; omega
    have d3 : (k != 3) = true := by rw [bne_iff_ne]; omega
    go_enter Tryz.func19, Tryz.ntmps19
    go_wp2
    go_ret
    exact ⟨rfl, (Kp.refl _).alloc _⟩

/-- told's reader. -/
def rdT : Nat → Nat × Bool := fun _ => (4099, true)
theorem t_walk : goW 1 0 rdT 4 0 4096 = ([⟨0, 4096, 4099, ⟨1, 4096, false, false, false, 0⟩⟩, ⟨1, 4096, 4099, ⟨1, 4096, false, false, false, 0⟩⟩, ⟨2, 4096, 4099, ⟨1, 4096, false, false, false, 0⟩⟩, ⟨3, 4096, 4099, ⟨3, 4096, false, false, false, 0⟩⟩], 0, 4) := by kernel_rfl
theorem t_out : outN 4660 3 3 4096 = 4660 := by decide +kernel

theorem WL.cell {w : World} {b : Nat} {L : List SV} (h : WL w b L) {i j : Nat} {x : SV} {y : Value} (hi : L[i]? = some x) (hy : (encS x)[j]? = some y) : w.cell? ⟨b, i * 9 + j, none⟩ = some y := OL.cell encS_ok h hi hy

end Go.Proofs.YtanlcmdnhhdhaaaGreatDoor

/- bits.check and the document's: what refuses a place of some bytes. -/
namespace Go.Proofs.YtanlcmdnhhdhaaaGreatDoor
open Go.RowKit
set_option maxRecDepth 10000

/-- Why a size and a place of so many bytes may not be. -/
def chk (len p size : Int) : Int := if size ≠ 1 ∧ size ≠ 2 ∧ size ≠ 4 ∧ size ≠ 8 then 1 else if p.tmod size ≠ 0 then 3 else if p < 0 ∨ len < p + size then 2 else 0

theorem chk_of {len p size : Int} (h : size = 1 ∨ size = 2 ∨ size = 4 ∨ size = 8) : chk len p size = if p.tmod size ≠ 0 then 3 else if p < 0 ∨ len < p + size then 2 else 0 := by
  unfold chk; rw [if_neg (by omega)]

set_option maxHeartbeats 2000000 in
set_option maxRecDepth 10000 in
theorem check_other (len p size : Int) (w : World) (h : size ≠ 1 ∧ size ≠ 2 ∧ size ≠ 4 ∧ size ≠ 8) :
    Calls Tryz.prog 91 #[.int .i64 len, .int .i64 p, .int .i64 size] w fun e w' => e = .returned (.int .i64 (chk len p size)) ∧ w' = w := by
  rw [show chk len p size = 1 from if_pos h]
  have h1 : ¬ (1 : Int) = size := by omega
  have h2 : ¬ (2 : Int) = size := by omega
  have h4 : ¬ (4 : Int) = size := by omega
  have h8 : ¬ (8 : Int) = size := by omega
  clear h
  go_enter Tryz.func91, Tryz.ntmps91
  go_wp2_with fail
  go_step3
  go_wp2_with fail
  refine wp_loop_rounds 9 ?_
  rw [rounds_succ]; go_wp2
  rw [rounds_succ]; go_wp2
  rw [rounds_succ]; go_wp2
  rw [rounds_succ]; go_wp2
  rw [rounds_succ]; go_wp2
  rw [rounds_succ]; go_wp2
  rw [rounds_succ]; go_wp2
  rw [rounds_succ]; go_wp2
  rw [rounds_succ]; go_wp2
  rw [Exit.noGoto_ret]
  go_ret
  exact ⟨rfl, rfl⟩

set_option maxHeartbeats 2000000 in
set_option maxRecDepth 10000 in
theorem check_1 (len p : Int) (w : World) (h1 : 0 ≤ len) (h2 : len ≤ 1000000) (h3 : -9223372036854775808 ≤ p) (h4 : p ≤ 9223372036854775807) :
    Calls Tryz.prog 91 #[.int .i64 len, .int .i64 p, .int .i64 1] w fun e w' => e = .returned (.int .i64 (chk len p 1)) ∧ w' = w := by
  go_enter Tryz.func91, Tryz.ntmps91
  go_wp2_with fail
  refine wp_scope_jumps 0 (fun a' w' => w' = w ∧ ∃ u3 u4 u5 u6 u7 u8 u9 u10 u11 u12 u13 u14 u15 u16 u17 u18 u19 u20 u21 u22 u23 u24 u25 u26 u27 u28 u29 u30 u31 u32 u33 : Value, a' = { tmps := #[.int .i64 len, .int .i64 p, .int .i64 1, u3, u4, u5, u6, u7, u8, u9, u10, u11, u12, u13, u14, u15, u16, u17, u18, u19, u20, u21, u22, u23, u24, u25, u26, u27, u28, u29, u30, u31, u32, u33], defers := [] }) (fun _ _ => 0) rfl ?_ ?_
  · go_wp2_with fail
    refine wp_loop_rounds 9 ?_
    rw [rounds_succ]; go_wp2
    go_step3
    exact ⟨rfl, rfl, _, _, _, _, _, _, _, _, _, _, _, _, _, _, _, _, _, _, _, _, _, _, _, _, _, _, _, _, _, _, _, rfl⟩
  · rintro a' w' ⟨rfl, u3, u4, u5, u6, u7, u8, u9, u10, u11, u12, u13, u14, u15, u16, u17, u18, u19, u20, u21, u22, u23, u24, u25, u26, u27, u28, u29, u30, u31, u32, u33, rfl⟩
    by_cases e1 : p.tmod 1 = 0
    · by_cases e2 : p < 0
      · have hr : chk len p 1 = 2 := by rw [chk_of (by omega), if_neg (by omega), if_pos (by omega)]
        go_wp2
        simp only [Exit.jump]
        go_ret
        exact ⟨by rw [hr]; rfl, rfl⟩
      · by_cases e3 : len - 1 < p
        · have hr : chk len p 1 = 2 := by rw [chk_of (by omega), if_neg (by omega), if_pos (by omega)]
          go_wp2
          simp only [Exit.jump]
          go_ret
          exact ⟨by rw [hr]; rfl, rfl⟩
        · have hr : chk len p 1 = 0 := by rw [chk_of (by omega), if_neg (by omega), if_neg (by omega)]
          go_wp2
          simp only [Exit.jump]
          go_ret
          exact ⟨by rw [hr]; rfl, rfl⟩
    · exact absurd (Int.tmod_one p) e1

set_option maxHeartbeats 2000000 in
set_option maxRecDepth 10000 in
theorem check_2 (len p : Int) (w : World) (h1 : 0 ≤ len) (h2 : len ≤ 1000000) (h3 : -9223372036854775808 ≤ p) (h4 : p ≤ 9223372036854775807) :
    Calls Tryz.prog 91 #[.int .i64 len, .int .i64 p, .int .i64 2] w fun e w' => e = .returned (.int .i64 (chk len p 2)) ∧ w' = w := by
  go_enter Tryz.func91, Tryz.ntmps91
  go_wp2_with fail
  refine wp_scope_jumps 0 (fun a' w' => w' = w ∧ ∃ u3 u4 u5 u6 u7 u8 u9 u10 u11 u12 u13 u14 u15 u16 u17 u18 u19 u20 u21 u22 u23 u24 u25 u26 u27 u28 u29 u30 u31 u32 u33 : Value, a' = { tmps := #[.int .i64 len, .int .i64 p, .int .i64 2, u3, u4, u5, u6, u7, u8, u9, u10, u11, u12, u13, u14, u15, u16, u17, u18, u19, u20, u21, u22, u23, u24, u25, u26, u27, u28, u29, u30, u31, u32, u33], defers := [] }) (fun _ _ => 0) rfl ?_ ?_
  · go_wp2_with fail
    refine wp_loop_rounds 9 ?_
    rw [rounds_succ]; go_wp2
    rw [rounds_succ]; go_wp2
    go_step3
    exact ⟨rfl, rfl, _, _, _, _, _, _, _, _, _, _, _, _, _, _, _, _, _, _, _, _, _, _, _, _, _, _, _, _, _, _, _, rfl⟩
  · rintro a' w' ⟨rfl, u3, u4, u5, u6, u7, u8, u9, u10, u11, u12, u13, u14, u15, u16, u17, u18, u19, u20, u21, u22, u23, u24, u25, u26, u27, u28, u29, u30, u31, u32, u33, rfl⟩
    by_cases e1 : p.tmod 2 = 0
    · by_cases e2 : p < 0
      · have hr : chk len p 2 = 2 := by rw [chk_of (by omega), if_neg (by omega), if_pos (by omega)]
        go_wp2
        simp only [Exit.jump]
        go_ret
        exact ⟨by rw [hr]; rfl, rfl⟩
      · by_cases e3 : len - 2 < p
        · have hr : chk len p 2 = 2 := by rw [chk_of (by omega), if_neg (by omega), if_pos (by omega)]
          go_wp2
          simp only [Exit.jump]
          go_ret
          exact ⟨by rw [hr]; rfl, rfl⟩
        · have hr : chk len p 2 = 0 := by rw [chk_of (by omega), if_neg (by omega), if_neg (by omega)]
          go_wp2
          simp only [Exit.jump]
          go_ret
          exact ⟨by rw [hr]; rfl, rfl⟩
    · have hr : chk len p 2 = 3 := by rw [chk_of (by omega), if_pos (by omega)]
      go_wp2
      simp only [Exit.jump]
      go_ret
      exact ⟨by rw [hr]; rfl, rfl⟩

set_option maxHeartbeats 2000000 in
set_option maxRecDepth 10000 in
theorem check_4 (len p : Int) (w : World) (h1 : 0 ≤ len) (h2 : len ≤ 1000000) (h3 : -9223372036854775808 ≤ p) (h4 : p ≤ 9223372036854775807) :
    Calls Tryz.prog 91 #[.int .i64 len, .int .i64 p, .int .i64 4] w fun e w' => e = .returned (.int .i64 (chk len p 4)) ∧ w' = w := by
  go_enter Tryz.func91, Tryz.ntmps91
  go_wp2_with fail
  refine wp_scope_jumps 0 (fun a' w' => w' = w ∧ ∃ u3 u4 u5 u6 u7 u8 u9 u10 u11 u12 u13 u14 u15 u16 u17 u18 u19 u20 u21 u22 u23 u24 u25 u26 u27 u28 u29 u30 u31 u32 u33 : Value, a' = { tmps := #[.int .i64 len, .int .i64 p, .int .i64 4, u3, u4, u5, u6, u7, u8, u9, u10, u11, u12, u13, u14, u15, u16, u17, u18, u19, u20, u21, u22, u23, u24, u25, u26, u27, u28, u29, u30, u31, u32, u33], defers := [] }) (fun _ _ => 0) rfl ?_ ?_
  · go_wp2_with fail
    refine wp_loop_rounds 9 ?_
    rw [rounds_succ]; go_wp2
    rw [rounds_succ]; go_wp2
    rw [rounds_succ]; go_wp2
    rw [rounds_succ]; go_wp2
    go_step3
    exact ⟨rfl, rfl, _, _, _, _, _, _, _, _, _, _, _, _, _, _, _, _, _, _, _, _, _, _, _, _, _, _, _, _, _, _, _, rfl⟩
  · rintro a' w' ⟨rfl, u3, u4, u5, u6, u7, u8, u9, u10, u11, u12, u13, u14, u15, u16, u17, u18, u19, u20, u21, u22, u23, u24, u25, u26, u27, u28, u29, u30, u31, u32, u33, rfl⟩
    by_cases e1 : p.tmod 4 = 0
    · by_cases e2 : p < 0
      · have hr : chk len p 4 = 2 := by rw [chk_of (by omega), if_neg (by omega), if_pos (by omega)]
        go_wp2
        simp only [Exit.jump]
        go_ret
        exact ⟨by rw [hr]; rfl, rfl⟩
      · by_cases e3 : len - 4 < p
        · have hr : chk len p 4 = 2 := by rw [chk_of (by omega), if_neg (by omega), if_pos (by omega)]
          go_wp2
          simp only [Exit.jump]
          go_ret
          exact ⟨by rw [hr]; rfl, rfl⟩
        · have hr : chk len p 4 = 0 := by rw [chk_of (by omega), if_neg (by omega), if_neg (by omega)]
          go_wp2
          simp only [Exit.jump]
          go_ret
          exact ⟨by rw [hr]; rfl, rfl⟩
    · have hr : chk len p 4 = 3 := by rw [chk_of (by omega), if_pos (by omega)]
      go_wp2
      simp only [Exit.jump]
      go_ret
      exact ⟨by rw [hr]; rfl, rfl⟩

set_option maxHeartbeats 2000000 in
set_option maxRecDepth 10000 in
theorem check_8 (len p : Int) (w : World) (h1 : 0 ≤ len) (h2 : len ≤ 1000000) (h3 : -9223372036854775808 ≤ p) (h4 : p ≤ 9223372036854775807) :
    Calls Tryz.prog 91 #[.int .i64 len, .int .i64 p, .int .i64 8] w fun e w' => e = .returned (.int .i64 (chk len p 8)) ∧ w' = w := by
  go_enter Tryz.func91, Tryz.ntmps91
  go_wp2_with fail
  refine wp_scope_jumps 0 (fun a' w' => w' = w ∧ ∃ u3 u4 u5 u6 u7 u8 u9 u10 u11 u12 u13 u14 u15 u16 u17 u18 u19 u20 u21 u22 u23 u24 u25 u26 u27 u28 u29 u30 u31 u32 u33 : Value, a' = { tmps := #[.int .i64 len, .int .i64 p, .int .i64 8, u3, u4, u5, u6, u7, u8, u9, u10, u11, u12, u13, u14, u15, u16, u17, u18, u19, u20, u21, u22, u23, u24, u25, u26, u27, u28, u29, u30, u31, u32, u33], defers := [] }) (fun _ _ => 0) rfl ?_ ?_
  · go_wp2_with fail
    refine wp_loop_rounds 9 ?_
    rw [rounds_succ]; go_wp2
    rw [rounds_succ]; go_wp2
    rw [rounds_succ]; go_wp2
    rw [rounds_succ]; go_wp2
    rw [rounds_succ]; go_wp2
    rw [rounds_succ]; go_wp2
    rw [rounds_succ]; go_wp2
    rw [rounds_succ]; go_wp2
    go_step3
    exact ⟨rfl, rfl, _, _, _, _, _, _, _, _, _, _, _, _, _, _, _, _, _, _, _, _, _, _, _, _, _, _, _, _, _, _, _, rfl⟩
  · rintro a' w' ⟨rfl, u3, u4, u5, u6, u7, u8, u9, u10, u11, u12, u13, u14, u15, u16, u17, u18, u19, u20, u21, u22, u23, u24, u25, u26, u27, u28, u29, u30, u31, u32, u33, rfl⟩
    by_cases e1 : p.tmod 8 = 0
    · by_cases e2 : p < 0
      · have hr : chk len p 8 = 2 := by rw [chk_of (by omega), if_neg (by omega), if_pos (by omega)]
        go_wp2
        simp only [Exit.jump]
        go_ret
        exact ⟨by rw [hr]; rfl, rfl⟩
      · by_cases e3 : len - 8 < p
        · have hr : chk len p 8 = 2 := by rw [chk_of (by omega), if_neg (by omega), if_pos (by omega)]
          go_wp2
          simp only [Exit.jump]
          go_ret
          exact ⟨by rw [hr]; rfl, rfl⟩
        · have hr : chk len p 8 = 0 := by rw [chk_of (by omega), if_neg (by omega), if_neg (by omega)]
          go_wp2
          simp only [Exit.jump]
          go_ret
          exact ⟨by rw [hr]; rfl, rfl⟩
    · have hr : chk len p 8 = 3 := by rw [chk_of (by omega), if_pos (by omega)]
      go_wp2
      simp only [Exit.jump]
      go_ret
      exact ⟨by rw [hr]; rfl, rfl⟩

theorem check_any (len p size : Int) (w : World) (h1 : 0 ≤ len) (h2 : len ≤ 1000000) (h3 : -9223372036854775808 ≤ p) (h4 : p ≤ 9223372036854775807) :
    Calls Tryz.prog 91 #[.int .i64 len, .int .i64 p, .int .i64 size] w fun e w' => e = .returned (.int .i64 (chk len p size)) ∧ w' = w := by
  by_cases c1 : size = 1
  · subst c1; exact check_1 len p w h1 h2 h3 h4
  by_cases c2 : size = 2
  · subst c2; exact check_2 len p w h1 h2 h3 h4
  by_cases c4 : size = 4
  · subst c4; exact check_4 len p w h1 h2 h3 h4
  by_cases c8 : size = 8
  · subst c8; exact check_8 len p w h1 h2 h3 h4
  exact check_other len p size w ⟨c1, c2, c4, c8⟩

end Go.Proofs.YtanlcmdnhhdhaaaGreatDoor

/- The document's check; numbers in bytes: Get, the program's and the document's. -/
namespace Go.Proofs.YtanlcmdnhhdhaaaGreatDoor
open Go.RowKit
set_option maxRecDepth 10000

def Bytes (f : Nat → Nat) : Prop := ∀ i, f i < 256
/-- m bytes lie in w in the block b from o on, and may be written. -/
structure BS (w : World) (b o m : Nat) (f : Nat → Nat) : Prop where
  lt : b < w.heap.size
  cell : ∀ i, i < m → w.cell? ⟨b, o + i, none⟩ = some (.int .u8 (f i : Nat))
  frz : ∀ i, i < m → w.frozen? ⟨b, o + i, none⟩ = false
  byte : Bytes f
theorem BS.kp {w w' : World} {b o m : Nat} {f : Nat → Nat} (h : BS w b o m f) (g : Kp w w') : BS w' b o m f :=
  ⟨Nat.lt_of_lt_of_le h.lt g.size, fun i hi => by rw [g.cell (p := ⟨b, o + i, none⟩) h.lt]; exact h.cell i hi, fun i hi => by rw [g.frz (p := ⟨b, o + i, none⟩) h.lt]; exact h.frz i hi, h.byte⟩
/-- f with v at p. -/
def upd (f : Nat → Nat) (p v : Nat) : Nat → Nat := fun i => if i = p then v else f i
theorem upd_same (f : Nat → Nat) (p v : Nat) : upd f p v p = v := if_pos rfl
theorem upd_other (f : Nat → Nat) (p v i : Nat) (h : i ≠ p) : upd f p v i = f i := if_neg h
theorem Bytes.upd {f : Nat → Nat} (h : Bytes f) (p v : Nat) (hv : v < 256) : Bytes (upd f p v) := fun i => by
  unfold Go.Proofs.YtanlcmdnhhdhaaaGreatDoor.upd; split
  · exact hv
  · exact h i
theorem BS.set {w : World} {b o m : Nat} {f : Nat → Nat} (h : BS w b o m f) (p v : Nat) (hp : p < m) (hv : v < 256) : BS (w.setCell ⟨b, o + p, none⟩ (.int .u8 (v : Nat))) b o m (upd f p v) :=
  ⟨by rw [World.size_setCell]; exact h.lt, fun i hi => by
    by_cases e : i = p
    · subst e
      rw [World.cell?_setCell_same _ _ _ (h.cell i hi)]; simp [upd]
    · rw [World.cell?_setCell_other _ _ _ _ (by intro z; simp only [Addr.mk.injEq] at z; omega)]; simp only [upd, if_neg e]; exact h.cell i hi, fun i hi => by rw [World.frozen?_setCell]; exact h.frz i hi, h.byte.upd p v hv⟩
theorem BS.less {w : World} {b o m n : Nat} {f : Nat → Nat} (h : BS w b o m f) (hn : n ≤ m) : BS w b o n f := ⟨h.lt, fun i hi => h.cell i (by omega), fun i hi => h.frz i (by omega), h.byte⟩
theorem BS.like {w : World} {b o m : Nat} {f g : Nat → Nat} (h : BS w b o m f) (hg : ∀ i, i < m → g i = f i) (hb : Bytes g) : BS w b o m g := ⟨h.lt, fun i hi => by rw [hg i hi]; exact h.cell i hi, h.frz, hb⟩

/-- The number of the k bytes of f from p on, the lowest first. -/
def numb (f : Nat → Nat) (p : Nat) : Nat → Nat
  | 0 => 0
  | k + 1 => numb f p k + f (p + k) * 2 ^ (8 * k)
theorem numb_lt {f : Nat → Nat} (h : Bytes f) (p : Nat) : ∀ k, numb f p k < 2 ^ (8 * k)
  | 0 => by simp [numb]
  | k + 1 => by
    have h1 := numb_lt h p k
    have h2 : f (p + k) * 2 ^ (8 * k) ≤ 255 * 2 ^ (8 * k) := Nat.mul_le_mul_right _ (by have := h (p + k); omega)
    have h3 : 2 ^ (8 * (k + 1)) = 256 * 2 ^ (8 * k) := by rw [show 8 * (k + 1) = 8 + 8 * k by omega, Nat.pow_add]
    unfold numb; omega
theorem pow64 {k : Nat} (h : k ≤ 8) : 2 ^ (8 * k) ≤ 18446744073709551616 := Nat.pow_le_pow_right (n := 2) (by decide) (show 8 * k ≤ 64 by omega)

theorem or_step (f : Nat → Nat) (p k : Nat) (hb : Bytes f) (hk : k < 8) :
    IntKind.u64.wrap ((f (p + k) : Int) * 2 ^ (8 * k)) = ((f (p + k) * 2 ^ (8 * k) : Nat) : Int) ∧ bits .or .u64 (numb f p k : Nat) ((f (p + k) * 2 ^ (8 * k) : Nat) : Int) = (numb f p (k + 1) : Nat) := by
  have h1 := numb_lt hb p k
  have h2 := numb_lt hb p (k + 1)
  have h3 := pow64 (show k + 1 ≤ 8 by omega)
  have e : numb f p (k + 1) = numb f p k + f (p + k) * 2 ^ (8 * k) := rfl
  refine ⟨shl_mod (by omega), ?_⟩
  rw [u64_or_nat _ _ (by omega) (by omega)]
  have := Nat.shiftLeft_add_eq_or_of_lt h1 (f (p + k))
  rw [Nat.shiftLeft_eq] at this
  rw [Nat.or_comm, ← this, Nat.add_comm, e]

set_option maxHeartbeats 2000000 in
set_option maxRecDepth 10000 in
theorem get_some (b n cap p s : Nat) (f : Nat → Nat) (w : World) (H : BS w b 0 n f) (hn : n ≤ 1000000) (hcap : n ≤ cap) (hs : s ≤ 8) (hs1 : 1 ≤ s) (hp : p + s ≤ n) (hc : chk n p s = 0) :
    Calls Tryz.prog 53 #[.slice (some ⟨b, 0, none⟩) n cap, .int .i64 (p : Int), .int .i64 (s : Int)] w fun e w' => e = .returned (.tuple #[.int .u64 (numb f p s : Nat), .int .i64 0]) ∧ w' = w := by
  have c1 := fun w => check_any n p s w (by omega) (by omega) (by omega) (by omega)
  rw [hc] at c1
  have HH : Aside (BS w b 0 n f) := H
  have z1 : (p : Int) + s ≤ n := by omega
  have z2 : (n : Int) ≤ cap := by omega
  have z3 : (n : Int) ≤ 1000000 := by omega
  have z4 : (s : Int) ≤ 8 := by omega
  have z5 : ¬ cap = p := by omega
  clear H hc
  go_enter Tryz.func53, Tryz.ntmps53
  go_wp2_with (go_at_call 91; with_reducible refine (c1 _).mono ?_; rintro e w' ⟨rfl, rfl⟩)
  go_loopg [9, 27] s (fun g v9 v27 wr => ∃ k : Nat, v9 = .int .u64 (numb f p k : Nat) ∧ v27 = .int .i64 k ∧ k ≤ s ∧ s - k ≤ g ∧ wr = w')
  case atStart => exact ⟨0, rfl, rfl, by omega, by omega, rfl⟩
  case round =>
    obtain ⟨k, rfl, rfl, hk, hg, rfl⟩ := hrel
    by_cases hlt : k < s
    · have y1 : (k : Int) < s := by omega
      have c2 := HH.out.cell (p + k) (by omega)
      have b2 := HH.out.byte (p + k)
      obtain ⟨o1, o2⟩ := or_step f p k HH.out.byte (by omega)
      have y2 : (f (p + k) : Int) < 256 := by omega
      rw [Nat.zero_add] at c2
      obtain ⟨r, hr⟩ : ∃ r, r = numb f p (k + 1) := ⟨_, rfl⟩
      rw [← hr] at o2
      have HR : Hid (r = numb f p (k + 1)) := hr
      clear hr
      generalize f (p + k) * 2 ^ (8 * k) = a at *
      generalize f (p + k) = c at *
      go_wp2
      go_roundg (s - (k + 1))
      case measure => omega
      case rel => exact ⟨k + 1, by rw [HR.out], by go_num, by omega, by omega, rfl⟩
    · have e : k = s := by omega
      subst e
      go_wp2
      go_ret2
      exact ⟨rfl, rfl⟩

theorem numb_low (f : Nat → Nat) : ∀ (j q : Nat), numb f q (j + 1) = numb f (q + 1) j * 256 + f q
  | 0, q => by simp [numb]
  | j + 1, q => by
    have ih := numb_low f j q
    have e : numb f q (j + 1 + 1) = numb f q (j + 1) + f (q + (j + 1)) * 2 ^ (8 * (j + 1)) := rfl
    have e2 : numb f (q + 1) (j + 1) = numb f (q + 1) j + f (q + 1 + j) * 2 ^ (8 * j) := rfl
    rw [e, ih, e2, show 8 * (j + 1) = 8 * j + 8 by omega, Nat.pow_add, show (2 : Nat) ^ 8 = 256 from rfl, show q + 1 + j = q + (j + 1) by omega, Nat.add_mul, Nat.mul_assoc]
    omega

end Go.Proofs.YtanlcmdnhhdhaaaGreatDoor
