/- Joined: B1, B2, B3, B4, B5, B6. -/
import Derived.Test.YtclcickhgoiooaaU0
import Derived.Deep.QuietTactic
import Derived.BigQuiet
import Derived.Deep.LoopGhost
import Derived.WalkMore
import Derived.ScopeJumps
import Derived.Laws.OwnMore
import Derived.Laws.Cells
import Derived.Laws.Cover3
/- bits: which bits and levels there are; a row of ones; fields; indices and spans. -/
namespace Go.Proofs.Ytclcickhgoiooaa
open Go.RowKit


theorem inWord_any (low n : Int) (w : World) (h1 : -9223372036854775808 ≤ n) (h2 : n ≤ 9223372036854775807) :
    Calls Try.prog 97 #[.int .i64 low, .int .i64 n] w fun e w' => e = .returned (.bool (decide (0 ≤ low ∧ 1 ≤ n ∧ low + n ≤ 64))) ∧ w' = w := by
  by_cases c1 : 0 ≤ low
  · by_cases c2 : 1 ≤ n
    · by_cases c3 : low ≤ 64 - n
      · rw [decide_eq_true ⟨c1, c2, by omega⟩]
        go_enter Try.func97, Try.ntmps97
        go_wp2
        go_ret
        exact ⟨rfl, rfl⟩
      · rw [decide_eq_false (by omega)]
        go_enter Try.func97, Try.ntmps97
        go_wp2
        go_ret
        exact ⟨rfl, rfl⟩
    · rw [decide_eq_false (by omega)]
      go_enter Try.func97, Try.ntmps97
      go_wp2
      go_ret
      exact ⟨rfl, rfl⟩
  · rw [decide_eq_false (by omega)]
    go_enter Try.func97, Try.ntmps97
    go_wp2
    go_ret
    exact ⟨rfl, rfl⟩

/-- n ones. -/
def on (n : Nat) : Nat := 2 ^ n - 1
theorem on_lt {n : Nat} (h : n ≤ 64) : on n < 18446744073709551616 := by
  have := Nat.pow_le_pow_right (n := 2) (by decide) h
  unfold on; omega
theorem on_top : ∀ n, n ≤ 64 → 18446744073709551615 / 2 ^ (64 - n) = on n := by decide +kernel
theorem on_top_int (n : Nat) (h : n ≤ 64) : (18446744073709551615 : Int) / 2 ^ (64 - n) = (on n : Nat) := by
  rw [← on_top n h]; simp


theorem ones_any (n : Nat) (w : World) (h1 : 1 ≤ n) (h2 : n ≤ 64) :
    Calls Try.prog 98 #[.int .i64 (n : Int)] w fun e w' => e = .returned (.int .u64 (on n : Nat)) ∧ w' = w := by
  have z1 : (1 : Int) ≤ n := by omega
  have z2 : (n : Int) ≤ 64 := by omega
  have z3 := on_top_int n h2
  go_enter Try.func98, Try.ntmps98
  go_wp2
  go_ret
  exact ⟨rfl, rfl⟩

/-- The n bits from low on. -/
def fieldN (u low n : Nat) : Nat := u / 2 ^ low % 2 ^ n
theorem field_and (u low n : Nat) (hu : u < 18446744073709551616) (hn : n ≤ 64) : bits .and .u64 ((u : Int) / 2 ^ low) (on n : Nat) = (fieldN u low n : Nat) := by
  have h1 : u / 2 ^ low < 18446744073709551616 := Nat.lt_of_le_of_lt (Nat.div_le_self _ _) hu
  have h2 := u64_and_nat (u / 2 ^ low) (on n) h1 (on_lt hn)
  rw [on, Nat.and_two_pow_sub_one_eq_mod] at h2
  rw [← fieldN, ← on] at h2
  rw [← h2]; congr 1

set_option maxHeartbeats 1000000 in
theorem field_any (u low n : Nat) (w : World) (hu : u < 18446744073709551616) (hn : 1 ≤ n) (hl : low + n ≤ 64) :
    Calls Try.prog 89 #[.int .u64 (u : Int), .int .i64 (low : Int), .int .i64 (n : Int)] w fun e w' => e = .returned (.int .u64 (fieldN u low n : Nat)) ∧ Dr w w' := by
  have c1 := fun w => inWord_any low n w (by omega) (by omega)
  rw [decide_eq_true (by omega)] at c1
  have c2 := fun w => ones_any n w hn (by omega)
  have z1 : (low : Int) ≤ 64 := by omega
  have z2 := field_and u low n hu (by omega)
  clear hu hn hl
  generalize fieldN u low n = r at *
  generalize on n = m at *
  go_enter Try.func89, Try.ntmps89
  go_wp2_with (go_at_call 97; with_reducible refine (c1 _).mono ?_; rintro e w' ⟨rfl, rfl⟩)
  go_quiet (first | (go_at_call 98; refine Calls.quiet_of_same (c2 _)))
  go_wp2
  go_ret
  exact ⟨rfl, ⟨_, rfl⟩⟩

/-- u with v's low n bits from low on. -/
def setN (u low n v : Nat) : Nat := (u &&& (18446744073709551615 - on n * 2 ^ low)) ||| (v % 2 ^ n * 2 ^ low)

theorem shl_lt {c n low : Nat} (hc : c < 2 ^ n) (hl : low + n ≤ 64) : c * 2 ^ low < 18446744073709551616 := by
  have h1 : c * 2 ^ low < 2 ^ n * 2 ^ low := Nat.mul_lt_mul_of_pos_right hc (Nat.two_pow_pos _)
  rw [← Nat.pow_add] at h1
  have h2 := Nat.pow_le_pow_right (n := 2) (by decide) (show n + low ≤ 64 by omega)
  exact Nat.lt_of_lt_of_le h1 h2
theorem shl_mod {c low : Nat} (h : c * 2 ^ low < 18446744073709551616) : IntKind.u64.wrap ((c : Int) * 2 ^ low) = ((c * 2 ^ low : Nat) : Int) := by
  have e : (c : Int) * 2 ^ low = ((c * 2 ^ low : Nat) : Int) := by rw [Int.natCast_mul, Int.natCast_pow]; rfl
  rw [e]; simp [IntKind.wrap, IntKind.bits, IntKind.signed]; omega
theorem on_pow (n : Nat) : on n < 2 ^ n := by have := Nat.two_pow_pos n; unfold on; omega

end Go.Proofs.Ytclcickhgoiooaa

/- bits.check and the document's: what refuses a place of some bytes. -/
namespace Go.Proofs.Ytclcickhgoiooaa
open Go.RowKit

/-- Why a size and a place of so many bytes may not be. -/
def chk (len p size : Int) : Int := if size ≠ 1 ∧ size ≠ 2 ∧ size ≠ 4 ∧ size ≠ 8 then 1 else if p.tmod size ≠ 0 then 3 else if p < 0 ∨ len < p + size then 2 else 0

theorem chk_of {len p size : Int} (h : size = 1 ∨ size = 2 ∨ size = 4 ∨ size = 8) : chk len p size = if p.tmod size ≠ 0 then 3 else if p < 0 ∨ len < p + size then 2 else 0 := by
  unfold chk; rw [if_neg (by omega)]

set_option maxHeartbeats 2000000 in
set_option maxRecDepth 10000 in
theorem check_other (len p size : Int) (w : World) (h : size ≠ 1 ∧ size ≠ 2 ∧ size ≠ 4 ∧ size ≠ 8) :
    Calls Try.prog 70 #[.int .i64 len, .int .i64 p, .int .i64 size] w fun e w' => e = .returned (.int .i64 (chk len p size)) ∧ w' = w := by
  rw [show chk len p size = 1 from if_pos h]
  have h1 : ¬ (1 : Int) = size := by omega
  have h2 : ¬ (2 : Int) = size := by omega
  have h4 : ¬ (4 : Int) = size := by omega
  have h8 : ¬ (8 : Int) = size := by omega
  clear h
  go_enter Try.func70, Try.ntmps70
  go_wp2_with fail
  go_step3
  go_wp2_with fail
  refine wp_loop_rounds 9 ?_
  rw [rounds_succ]; go_wp2
  rw [rounds_succ]; go_wp2
  rw [rounds_succ]; go_wp2
  rw [rounds_succ]; go_wp2
  rw [rounds_succ]; go_wp2
  rw [rounds_succ]; go_wp2
  rw [rounds_succ]; go_wp2
  rw [rounds_succ]; go_wp2
  rw [rounds_succ]; go_wp2
  rw [Exit.noGoto_ret]
  go_ret
  exact ⟨rfl, rfl⟩

set_option maxHeartbeats 2000000 in
set_option maxRecDepth 10000 in
theorem check_1 (len p : Int) (w : World) (h1 : 0 ≤ len) (h2 : len ≤ 1000000) (h3 : -9223372036854775808 ≤ p) (h4 : p ≤ 9223372036854775807) :
    Calls Try.prog 70 #[.int .i64 len, .int .i64 p, .int .i64 1] w fun e w' => e = .returned (.int .i64 (chk len p 1)) ∧ w' = w := by
  go_enter Try.func70, Try.ntmps70
  go_wp2_with fail
  refine wp_scope_jumps 0 (fun a' w' => w' = w ∧ ∃ u3 u4 u5 u6 u7 u8 u9 u10 u11 u12 u13 u14 u15 u16 u17 u18 u19 u20 u21 u22 u23 u24 u25 u26 u27 u28 u29 u30 u31 u32 u33 : Value, a' = { tmps := #[.int .i64 len, .int .i64 p, .int .i64 1, u3, u4, u5, u6, u7, u8, u9, u10, u11, u12, u13, u14, u15, u16, u17, u18, u19, u20, u21, u22, u23, u24, u25, u26, u27, u28, u29, u30, u31, u32, u33], defers := [] }) (fun _ _ => 0) rfl ?_ ?_
  · go_wp2_with fail
    refine wp_loop_rounds 9 ?_
    rw [rounds_succ]; go_wp2
    go_step3
    exact ⟨rfl, rfl, _, _, _, _, _, _, _, _, _, _, _, _, _, _, _, _, _, _, _, _, _, _, _, _, _, _, _, _, _, _, _, rfl⟩
  · rintro a' w' ⟨rfl, u3, u4, u5, u6, u7, u8, u9, u10, u11, u12, u13, u14, u15, u16, u17, u18, u19, u20, u21, u22, u23, u24, u25, u26, u27, u28, u29, u30, u31, u32, u33, rfl⟩
    by_cases e1 : p.tmod 1 = 0
    · by_cases e2 : p < 0
      · have hr : chk len p 1 = 2 := by rw [chk_of (by omega), if_neg (by omega), if_pos (by omega)]
        go_wp2
        simp only [Exit.jump]
        go_ret
        exact ⟨by rw [hr]; rfl, rfl⟩
      · by_cases e3 : len - 1 < p
        · have hr : chk len p 1 = 2 := by rw [chk_of (by omega), if_neg (by omega), if_pos (by omega)]
          go_wp2
          simp only [Exit.jump]
          go_ret
          exact ⟨by rw [hr]; rfl, rfl⟩
        · have hr : chk len p 1 = 0 := by rw [chk_of (by omega), if_neg (by omega), if_neg (by omega)]
          go_wp2
          simp only [Exit.jump]
          go_ret
          exact ⟨by rw [hr]; rfl, rfl⟩
    · exact absurd (Int.tmod_one p) e1

set_option maxHeartbeats 2000000 in
set_option maxRecDepth 10000 in
theorem check_2 (len p : Int) (w : World) (h1 : 0 ≤ len) (h2 : len ≤ 1000000) (h3 : -9223372036854775808 ≤ p) (h4 : p ≤ 9223372036854775807) :
    Calls Try.prog 70 #[.int .i64 len, .int .i64 p, .int .i64 2] w fun e w' => e = .returned (.int .i64 (chk len p 2)) ∧ w' = w := by
  go_enter Try.func70, Try.ntmps70
  go_wp2_with fail
  refine wp_scope_jumps 0 (fun a' w' => w' = w ∧ ∃ u3 u4 u5 u6 u7 u8 u9 u10 u11 u12 u13 u14 u15 u16 u17 u18 u19 u20 u21 u22 u23 u24 u25 u26 u27 u28 u29 u30 u31 u32 u33 : Value, a' = { tmps := #[.int .i64 len, .int .i64 p, .int .i64 2, u3, u4, u5, u6, u7, u8, u9, u10, u11, u12, u13, u14, u15, u16, u17, u18, u19, u20, u21, u22, u23, u24, u25, u26, u27, u28, u29, u30, u31, u32, u33], defers := [] }) (fun _ _ => 0) rfl ?_ ?_
  · go_wp2_with fail
    refine wp_loop_rounds 9 ?_
    rw [rounds_succ]; go_wp2
    rw [rounds_succ]; go_wp2
    go_step3
    exact ⟨rfl, rfl, _, _, _, _, _, _, _, _, _, _, _, _, _, _, _, _, _, _, _, _, _, _, _, _, _, _, _, _, _, _, _, rfl⟩
  · rintro a' w' ⟨rfl, u3, u4, u5, u6, u7, u8, u9, u10, u11, u12, u13, u14, u15, u16, u17, u18, u19, u20, u21, u22, u23, u24, u25, u26, u27, u28, u29, u30, u31, u32, u33, rfl⟩
    by_cases e1 : p.tmod 2 = 0
    · by_cases e2 : p < 0
      · have hr : chk len p 2 = 2 := by rw [chk_of (by omega), if_neg (by omega), if_pos (by omega)]
        go_wp2
        simp only [Exit.jump]
        go_ret
        exact ⟨by rw [hr]; rfl, rfl⟩
      · by_cases e3 : len - 2 < p
        · have hr : chk len p 2 = 2 := by rw [chk_of (by omega), if_neg (by omega), if_pos (by omega)]
          go_wp2
          simp only [Exit.jump]
          go_ret
          exact ⟨by rw [hr]; rfl, rfl⟩
        · have hr : chk len p 2 = 0 := by rw [chk_of (by omega), if_neg (by omega), if_neg (by omega)]
          go_wp2
          simp only [Exit.jump]
          go_ret
          exact ⟨by rw [hr]; rfl, rfl⟩
    · have hr : chk len p 2 = 3 := by rw [chk_of (by omega), if_pos (by omega)]
      go_wp2
      simp only [Exit.jump]
      go_ret
      exact ⟨by rw [hr]; rfl, rfl⟩

set_option maxHeartbeats 2000000 in
set_option maxRecDepth 10000 in
theorem check_4 (len p : Int) (w : World) (h1 : 0 ≤ len) (h2 : len ≤ 1000000) (h3 : -9223372036854775808 ≤ p) (h4 : p ≤ 9223372036854775807) :
    Calls Try.prog 70 #[.int .i64 len, .int .i64 p, .int .i64 4] w fun e w' => e = .returned (.int .i64 (chk len p 4)) ∧ w' = w := by
  go_enter Try.func70, Try.ntmps70
  go_wp2_with fail
  refine wp_scope_jumps 0 (fun a' w' => w' = w ∧ ∃ u3 u4 u5 u6 u7 u8 u9 u10 u11 u12 u13 u14 u15 u16 u17 u18 u19 u20 u21 u22 u23 u24 u25 u26 u27 u28 u29 u30 u31 u32 u33 : Value, a' = { tmps := #[.int .i64 len, .int .i64 p, .int .i64 4, u3, u4, u5, u6, u7, u8, u9, u10, u11, u12, u13, u14, u15, u16, u17, u18, u19, u20, u21, u22, u23, u24, u25, u26, u27, u28, u29, u30, u31, u32, u33], defers := [] }) (fun _ _ => 0) rfl ?_ ?_
  · go_wp2_with fail
    refine wp_loop_rounds 9 ?_
    rw [rounds_succ]; go_wp2
    rw [rounds_succ]; go_wp2
    rw [rounds_succ]; go_wp2
    rw [rounds_succ]; go_wp2
    go_step3
    exact ⟨rfl, rfl, _, _, _, _, _, _, _, _, _, _, _, _, _, _, _, _, _, _, _, _, _, _, _, _, _, _, _, _, _, _, _, rfl⟩
  · rintro a' w' ⟨rfl, u3, u4, u5, u6, u7, u8, u9, u10, u11, u12, u13, u14, u15, u16, u17, u18, u19, u20, u21, u22, u23, u24, u25, u26, u27, u28, u29, u30, u31, u32, u33, rfl⟩
    by_cases e1 : p.tmod 4 = 0
    · by_cases e2 : p < 0
      · have hr : chk len p 4 = 2 := by rw [chk_of (by omega), if_neg (by omega), if_pos (by omega)]
        go_wp2
        simp only [Exit.jump]
        go_ret
        exact ⟨by rw [hr]; rfl, rfl⟩
      · by_cases e3 : len - 4 < p
        · have hr : chk len p 4 = 2 := by rw [chk_of (by omega), if_neg (by omega), if_pos (by omega)]
          go_wp2
          simp only [Exit.jump]
          go_ret
          exact ⟨by rw [hr]; rfl, rfl⟩
        · have hr : chk len p 4 = 0 := by rw [chk_of (by omega), if_neg (by omega), if_neg (by omega)]
          go_wp2
          simp only [Exit.jump]
          go_ret
          exact ⟨by rw [hr]; rfl, rfl⟩
    · have hr : chk len p 4 = 3 := by rw [chk_of (by omega), if_pos (by omega)]
      go_wp2
      simp only [Exit.jump]
      go_ret
      exact ⟨by rw [hr]; rfl, rfl⟩

set_option maxHeartbeats 2000000 in
set_option maxRecDepth 10000 in
theorem check_8 (len p : Int) (w : World) (h1 : 0 ≤ len) (h2 : len ≤ 1000000) (h3 : -9223372036854775808 ≤ p) (h4 : p ≤ 9223372036854775807) :
    Calls Try.prog 70 #[.int .i64 len, .int .i64 p, .int .i64 8] w fun e w' => e = .returned (.int .i64 (chk len p 8)) ∧ w' = w := by
  go_enter Try.func70, Try.ntmps70
  go_wp2_with fail
  refine wp_scope_jumps 0 (fun a' w' => w' = w ∧ ∃ u3 u4 u5 u6 u7 u8 u9 u10 u11 u12 u13 u14 u15 u16 u17 u18 u19 u20 u21 u22 u23 u24 u25 u26 u27 u28 u29 u30 u31 u32 u33 : Value, a' = { tmps := #[.int .i64 len, .int .i64 p, .int .i64 8, u3, u4, u5, u6, u7, u8, u9, u10, u11, u12, u13, u14, u15, u16, u17, u18, u19, u20, u21, u22, u23, u24, u25, u26, u27, u28, u29, u30, u31, u32, u33], defers := [] }) (fun _ _ => 0) rfl ?_ ?_
  · go_wp2_with fail
    refine wp_loop_rounds 9 ?_
    rw [rounds_succ]; go_wp2
    rw [rounds_succ]; go_wp2
    rw [rounds_succ]; go_wp2
    rw [rounds_succ]; go_wp2
    rw [rounds_succ]; go_wp2
    rw [rounds_succ]; go_wp2
    rw [rounds_succ]; go_wp2
    rw [rounds_succ]; go_wp2
    go_step3
    exact ⟨rfl, rfl, _, _, _, _, _, _, _, _, _, _, _, _, _, _, _, _, _, _, _, _, _, _, _, _, _, _, _, _, _, _, _, rfl⟩
  · rintro a' w' ⟨rfl, u3, u4, u5, u6, u7, u8, u9, u10, u11, u12, u13, u14, u15, u16, u17, u18, u19, u20, u21, u22, u23, u24, u25, u26, u27, u28, u29, u30, u31, u32, u33, rfl⟩
    by_cases e1 : p.tmod 8 = 0
    · by_cases e2 : p < 0
      · have hr : chk len p 8 = 2 := by rw [chk_of (by omega), if_neg (by omega), if_pos (by omega)]
        go_wp2
        simp only [Exit.jump]
        go_ret
        exact ⟨by rw [hr]; rfl, rfl⟩
      · by_cases e3 : len - 8 < p
        · have hr : chk len p 8 = 2 := by rw [chk_of (by omega), if_neg (by omega), if_pos (by omega)]
          go_wp2
          simp only [Exit.jump]
          go_ret
          exact ⟨by rw [hr]; rfl, rfl⟩
        · have hr : chk len p 8 = 0 := by rw [chk_of (by omega), if_neg (by omega), if_neg (by omega)]
          go_wp2
          simp only [Exit.jump]
          go_ret
          exact ⟨by rw [hr]; rfl, rfl⟩
    · have hr : chk len p 8 = 3 := by rw [chk_of (by omega), if_pos (by omega)]
      go_wp2
      simp only [Exit.jump]
      go_ret
      exact ⟨by rw [hr]; rfl, rfl⟩

theorem check_any (len p size : Int) (w : World) (h1 : 0 ≤ len) (h2 : len ≤ 1000000) (h3 : -9223372036854775808 ≤ p) (h4 : p ≤ 9223372036854775807) :
    Calls Try.prog 70 #[.int .i64 len, .int .i64 p, .int .i64 size] w fun e w' => e = .returned (.int .i64 (chk len p size)) ∧ w' = w := by
  by_cases c1 : size = 1
  · subst c1; exact check_1 len p w h1 h2 h3 h4
  by_cases c2 : size = 2
  · subst c2; exact check_2 len p w h1 h2 h3 h4
  by_cases c4 : size = 4
  · subst c4; exact check_4 len p w h1 h2 h3 h4
  by_cases c8 : size = 8
  · subst c8; exact check_8 len p w h1 h2 h3 h4
  exact check_other len p size w ⟨c1, c2, c4, c8⟩

end Go.Proofs.Ytclcickhgoiooaa

/- The document's check; numbers in bytes: Get, the program's and the document's. -/
namespace Go.Proofs.Ytclcickhgoiooaa
open Go.RowKit

def Bytes (f : Nat → Nat) : Prop := ∀ i, f i < 256
/-- m bytes lie in w in the block b from o on, and may be written. -/
structure BS (w : World) (b o m : Nat) (f : Nat → Nat) : Prop where
  lt : b < w.heap.size
  cell : ∀ i, i < m → w.cell? ⟨b, o + i, none⟩ = some (.int .u8 (f i : Nat))
  frz : ∀ i, i < m → w.frozen? ⟨b, o + i, none⟩ = false
  byte : Bytes f
theorem BS.kp {w w' : World} {b o m : Nat} {f : Nat → Nat} (h : BS w b o m f) (g : Kp w w') : BS w' b o m f :=
  ⟨Nat.lt_of_lt_of_le h.lt g.size, fun i hi => by rw [g.cell (p := ⟨b, o + i, none⟩) h.lt]; exact h.cell i hi, fun i hi => by rw [g.frz (p := ⟨b, o + i, none⟩) h.lt]; exact h.frz i hi, h.byte⟩
/-- f with v at p. -/
def upd (f : Nat → Nat) (p v : Nat) : Nat → Nat := fun i => if i = p then v else f i
theorem upd_same (f : Nat → Nat) (p v : Nat) : upd f p v p = v := if_pos rfl
theorem upd_other (f : Nat → Nat) (p v i : Nat) (h : i ≠ p) : upd f p v i = f i := if_neg h
theorem Bytes.upd {f : Nat → Nat} (h : Bytes f) (p v : Nat) (hv : v < 256) : Bytes (upd f p v) := fun i => by
  unfold Go.Proofs.Ytclcickhgoiooaa.upd; split
  · exact hv
  · exact h i
theorem BS.set {w : World} {b o m : Nat} {f : Nat → Nat} (h : BS w b o m f) (p v : Nat) (hp : p < m) (hv : v < 256) : BS (w.setCell ⟨b, o + p, none⟩ (.int .u8 (v : Nat))) b o m (upd f p v) :=
  ⟨by rw [World.size_setCell]; exact h.lt, fun i hi => by
    by_cases e : i = p
    · subst e
      rw [World.cell?_setCell_same _ _ _ (h.cell i hi)]; simp [upd]
    · rw [World.cell?_setCell_other _ _ _ _ (by intro z; simp only [Addr.mk.injEq] at z; omega)]; simp only [upd, if_neg e]; exact h.cell i hi, fun i hi => by rw [World.frozen?_setCell]; exact h.frz i hi, h.byte.upd p v hv⟩
theorem BS.less {w : World} {b o m n : Nat} {f : Nat → Nat} (h : BS w b o m f) (hn : n ≤ m) : BS w b o n f := ⟨h.lt, fun i hi => h.cell i (by omega), fun i hi => h.frz i (by omega), h.byte⟩
theorem BS.like {w : World} {b o m : Nat} {f g : Nat → Nat} (h : BS w b o m f) (hg : ∀ i, i < m → g i = f i) (hb : Bytes g) : BS w b o m g := ⟨h.lt, fun i hi => by rw [hg i hi]; exact h.cell i hi, h.frz, hb⟩

/-- The number of the k bytes of f from p on, the lowest first. -/
def numb (f : Nat → Nat) (p : Nat) : Nat → Nat
  | 0 => 0
  | k + 1 => numb f p k + f (p + k) * 2 ^ (8 * k)
theorem numb_lt {f : Nat → Nat} (h : Bytes f) (p : Nat) : ∀ k, numb f p k < 2 ^ (8 * k)
  | 0 => by simp [numb]
  | k + 1 => by
    have h1 := numb_lt h p k
    have h2 : f (p + k) * 2 ^ (8 * k) ≤ 255 * 2 ^ (8 * k) := Nat.mul_le_mul_right _ (by have := h (p + k); omega)
    have h3 : 2 ^ (8 * (k + 1)) = 256 * 2 ^ (8 * k) := by rw [show 8 * (k + 1) = 8 + 8 * k by omega, Nat.pow_add]
    unfold numb; omega
theorem pow64 {k : Nat} (h : k ≤ 8) : 2 ^ (8 * k) ≤ 18446744073709551616 := Nat.pow_le_pow_right (n := 2) (by decide) (show 8 * k ≤ 64 by omega)

set_option maxHeartbeats 1000000 in
theorem bad_any (len p size : Int) (w : World) (h1 : 0 ≤ len) (h2 : len ≤ 1000000) (h3 : -9223372036854775808 ≤ p) (h4 : p ≤ 9223372036854775807) :
    Calls Try.prog 80 #[.int .i64 len, .int .i64 p, .int .i64 size] w fun e w' => e = .returned (.int .i64 (chk len p size)) ∧ w' = w := by
  by_cases c1 : size = 1
  · subst c1
    by_cases e1 : p.tmod 1 = 0
    · by_cases e2 : p < 0
      · have hr : chk len p 1 = 2 := by rw [chk_of (by omega), if_neg (by omega), if_pos (by omega)]
        go_enter Try.func80, Try.ntmps80
        go_wp2
        go_ret
        exact ⟨by first | (rw [hr]; rfl) | rfl, rfl⟩
      · by_cases e3 : len < 1
        · have hr : chk len p 1 = 2 := by rw [chk_of (by omega), if_neg (by omega), if_pos (by omega)]
          go_enter Try.func80, Try.ntmps80
          go_wp2
          go_ret
          exact ⟨by first | (rw [hr]; rfl) | rfl, rfl⟩
        · by_cases e4 : len - 1 < p
          · have hr : chk len p 1 = 2 := by rw [chk_of (by omega), if_neg (by omega), if_pos (by omega)]
            go_enter Try.func80, Try.ntmps80
            go_wp2
            go_ret
            exact ⟨by first | (rw [hr]; rfl) | rfl, rfl⟩
          · have hr : chk len p 1 = 0 := by rw [chk_of (by omega), if_neg (by omega), if_neg (by omega)]
            go_enter Try.func80, Try.ntmps80
            go_wp2
            go_ret
            exact ⟨by first | (rw [hr]; rfl) | rfl, rfl⟩
    · exact absurd (Int.tmod_one p) e1
  by_cases c2 : size = 2
  · subst c2
    by_cases e1 : p.tmod 2 = 0
    · by_cases e2 : p < 0
      · have hr : chk len p 2 = 2 := by rw [chk_of (by omega), if_neg (by omega), if_pos (by omega)]
        go_enter Try.func80, Try.ntmps80
        go_wp2
        go_ret
        exact ⟨by first | (rw [hr]; rfl) | rfl, rfl⟩
      · by_cases e3 : len < 2
        · have hr : chk len p 2 = 2 := by rw [chk_of (by omega), if_neg (by omega), if_pos (by omega)]
          go_enter Try.func80, Try.ntmps80
          go_wp2
          go_ret
          exact ⟨by first | (rw [hr]; rfl) | rfl, rfl⟩
        · by_cases e4 : len - 2 < p
          · have hr : chk len p 2 = 2 := by rw [chk_of (by omega), if_neg (by omega), if_pos (by omega)]
            go_enter Try.func80, Try.ntmps80
            go_wp2
            go_ret
            exact ⟨by first | (rw [hr]; rfl) | rfl, rfl⟩
          · have hr : chk len p 2 = 0 := by rw [chk_of (by omega), if_neg (by omega), if_neg (by omega)]
            go_enter Try.func80, Try.ntmps80
            go_wp2
            go_ret
            exact ⟨by first | (rw [hr]; rfl) | rfl, rfl⟩
    · have hr : chk len p 2 = 3 := by rw [chk_of (by omega), if_pos (by omega)]
      go_enter Try.func80, Try.ntmps80
      go_wp2
      go_ret
      exact ⟨by first | (rw [hr]; rfl) | rfl, rfl⟩
  by_cases c4 : size = 4
  · subst c4
    by_cases e1 : p.tmod 4 = 0
    · by_cases e2 : p < 0
      · have hr : chk len p 4 = 2 := by rw [chk_of (by omega), if_neg (by omega), if_pos (by omega)]
        go_enter Try.func80, Try.ntmps80
        go_wp2
        go_ret
        exact ⟨by first | (rw [hr]; rfl) | rfl, rfl⟩
      · by_cases e3 : len < 4
        · have hr : chk len p 4 = 2 := by rw [chk_of (by omega), if_neg (by omega), if_pos (by omega)]
          go_enter Try.func80, Try.ntmps80
          go_wp2
          go_ret
          exact ⟨by first | (rw [hr]; rfl) | rfl, rfl⟩
        · by_cases e4 : len - 4 < p
          · have hr : chk len p 4 = 2 := by rw [chk_of (by omega), if_neg (by omega), if_pos (by omega)]
            go_enter Try.func80, Try.ntmps80
            go_wp2
            go_ret
            exact ⟨by first | (rw [hr]; rfl) | rfl, rfl⟩
          · have hr : chk len p 4 = 0 := by rw [chk_of (by omega), if_neg (by omega), if_neg (by omega)]
            go_enter Try.func80, Try.ntmps80
            go_wp2
            go_ret
            exact ⟨by first | (rw [hr]; rfl) | rfl, rfl⟩
    · have hr : chk len p 4 = 3 := by rw [chk_of (by omega), if_pos (by omega)]
      go_enter Try.func80, Try.ntmps80
      go_wp2
      go_ret
      exact ⟨by first | (rw [hr]; rfl) | rfl, rfl⟩
  by_cases c8 : size = 8
  · subst c8
    by_cases e1 : p.tmod 8 = 0
    · by_cases e2 : p < 0
      · have hr : chk len p 8 = 2 := by rw [chk_of (by omega), if_neg (by omega), if_pos (by omega)]
        go_enter Try.func80, Try.ntmps80
        go_wp2
        go_ret
        exact ⟨by first | (rw [hr]; rfl) | rfl, rfl⟩
      · by_cases e3 : len < 8
        · have hr : chk len p 8 = 2 := by rw [chk_of (by omega), if_neg (by omega), if_pos (by omega)]
          go_enter Try.func80, Try.ntmps80
          go_wp2
          go_ret
          exact ⟨by first | (rw [hr]; rfl) | rfl, rfl⟩
        · by_cases e4 : len - 8 < p
          · have hr : chk len p 8 = 2 := by rw [chk_of (by omega), if_neg (by omega), if_pos (by omega)]
            go_enter Try.func80, Try.ntmps80
            go_wp2
            go_ret
            exact ⟨by first | (rw [hr]; rfl) | rfl, rfl⟩
          · have hr : chk len p 8 = 0 := by rw [chk_of (by omega), if_neg (by omega), if_neg (by omega)]
            go_enter Try.func80, Try.ntmps80
            go_wp2
            go_ret
            exact ⟨by first | (rw [hr]; rfl) | rfl, rfl⟩
    · have hr : chk len p 8 = 3 := by rw [chk_of (by omega), if_pos (by omega)]
      go_enter Try.func80, Try.ntmps80
      go_wp2
      go_ret
      exact ⟨by first | (rw [hr]; rfl) | rfl, rfl⟩
  have hr : chk len p size = 1 := if_pos ⟨c1, c2, c4, c8⟩
  have b1 : (size != 1) = true := by simp [c1]
  have b2 : (size != 2) = true := by simp [c2]
  have b4 : (size != 4) = true := by simp [c4]
  have b8 : (size != 8) = true := by simp [c8]
  go_enter Try.func80, Try.ntmps80
  go_wp2
  go_ret
  exact ⟨by first | (rw [hr]; rfl) | rfl, rfl⟩

theorem or_step (f : Nat → Nat) (p k : Nat) (hb : Bytes f) (hk : k < 8) :
    IntKind.u64.wrap ((f (p + k) : Int) * 2 ^ (8 * k)) = ((f (p + k) * 2 ^ (8 * k) : Nat) : Int) ∧ bits .or .u64 (numb f p k : Nat) ((f (p + k) * 2 ^ (8 * k) : Nat) : Int) = (numb f p (k + 1) : Nat) := by
  have h1 := numb_lt hb p k
  have h2 := numb_lt hb p (k + 1)
  have h3 := pow64 (show k + 1 ≤ 8 by omega)
  have e : numb f p (k + 1) = numb f p k + f (p + k) * 2 ^ (8 * k) := rfl
  refine ⟨shl_mod (by omega), ?_⟩
  rw [u64_or_nat _ _ (by omega) (by omega)]
  have := Nat.shiftLeft_add_eq_or_of_lt h1 (f (p + k))
  rw [Nat.shiftLeft_eq] at this
  rw [Nat.or_comm, ← this, Nat.add_comm, e]

set_option maxHeartbeats 2000000 in
set_option maxRecDepth 10000 in
theorem get_some (b n cap p s : Nat) (f : Nat → Nat) (w : World) (H : BS w b 0 n f) (hn : n ≤ 1000000) (hcap : n ≤ cap) (hs : s ≤ 8) (hs1 : 1 ≤ s) (hp : p + s ≤ n) (hc : chk n p s = 0) :
    Calls Try.prog 86 #[.slice (some ⟨b, 0, none⟩) n cap, .int .i64 (p : Int), .int .i64 (s : Int)] w fun e w' => e = .returned (.tuple #[.int .u64 (numb f p s : Nat), .int .i64 0]) ∧ w' = w := by
  have c1 := fun w => check_any n p s w (by omega) (by omega) (by omega) (by omega)
  rw [hc] at c1
  have HH : Aside (BS w b 0 n f) := H
  have z1 : (p : Int) + s ≤ n := by omega
  have z2 : (n : Int) ≤ cap := by omega
  have z3 : (n : Int) ≤ 1000000 := by omega
  have z4 : (s : Int) ≤ 8 := by omega
  have z5 : ¬ cap = p := by omega
  clear H hc
  go_enter Try.func86, Try.ntmps86
  go_wp2_with (go_at_call 70; with_reducible refine (c1 _).mono ?_; rintro e w' ⟨rfl, rfl⟩)
  go_loopg [9, 27] s (fun g v9 v27 wr => ∃ k : Nat, v9 = .int .u64 (numb f p k : Nat) ∧ v27 = .int .i64 k ∧ k ≤ s ∧ s - k ≤ g ∧ wr = w')
  case atStart => exact ⟨0, rfl, rfl, by omega, by omega, rfl⟩
  case round =>
    obtain ⟨k, rfl, rfl, hk, hg, rfl⟩ := hrel
    by_cases hlt : k < s
    · have y1 : (k : Int) < s := by omega
      have c2 := HH.out.cell (p + k) (by omega)
      have b2 := HH.out.byte (p + k)
      obtain ⟨o1, o2⟩ := or_step f p k HH.out.byte (by omega)
      have y2 : (f (p + k) : Int) < 256 := by omega
      rw [Nat.zero_add] at c2
      obtain ⟨r, hr⟩ : ∃ r, r = numb f p (k + 1) := ⟨_, rfl⟩
      rw [← hr] at o2
      have HR : Hid (r = numb f p (k + 1)) := hr
      clear hr
      generalize f (p + k) * 2 ^ (8 * k) = a at *
      generalize f (p + k) = c at *
      go_wp2
      go_roundg (s - (k + 1))
      case measure => omega
      case rel => exact ⟨k + 1, by rw [HR.out], by go_num, by omega, by omega, rfl⟩
    · have e : k = s := by omega
      subst e
      go_wp2
      go_ret2
      exact ⟨rfl, rfl⟩

theorem numb_low (f : Nat → Nat) : ∀ (j q : Nat), numb f q (j + 1) = numb f (q + 1) j * 256 + f q
  | 0, q => by simp [numb]
  | j + 1, q => by
    have ih := numb_low f j q
    have e : numb f q (j + 1 + 1) = numb f q (j + 1) + f (q + (j + 1)) * 2 ^ (8 * (j + 1)) := rfl
    have e2 : numb f (q + 1) (j + 1) = numb f (q + 1) j + f (q + 1 + j) * 2 ^ (8 * j) := rfl
    rw [e, ih, e2, show 8 * (j + 1) = 8 * j + 8 by omega, Nat.pow_add, show (2 : Nat) ^ 8 = 256 from rfl, show q + 1 + j = q + (j + 1) by omega, Nat.add_mul, Nat.mul_assoc]
    omega

set_option maxHeartbeats 2000000 in
set_option maxRecDepth 10000 in
theorem rget_some (b n cap p s : Nat) (f : Nat → Nat) (w : World) (H : BS w b 0 n f) (hn : n ≤ 1000000) (hs : s ≤ 8) (hp : p + s ≤ n) (hc : chk n p s = 0) :
    Calls Try.prog 67 #[.slice (some ⟨b, 0, none⟩) n cap, .int .i64 (p : Int), .int .i64 (s : Int)] w fun e w' => e = .returned (.tuple #[.int .u64 (numb f p s : Nat), .int .i64 0]) ∧ w' = w := by
  have c1 := fun w => bad_any n p s w (by omega) (by omega) (by omega) (by omega)
  rw [hc] at c1
  have HH : Aside (BS w b 0 n f) := H
  have z1 : (p : Int) + s ≤ n := by omega
  have z3 : (n : Int) ≤ 1000000 := by omega
  have z4 : (s : Int) ≤ 8 := by omega
  clear H hc
  go_enter Try.func67, Try.ntmps67
  go_wp2_with (go_at_call 80; with_reducible refine (c1 _).mono ?_; rintro e w' ⟨rfl, rfl⟩)
  go_loopg [9, 10] s (fun g v9 v10 wr => ∃ i j : Nat, v9 = .int .u64 (numb f (p + i) j : Nat) ∧ v10 = .int .i64 ((i : Int) - 1) ∧ i + j = s ∧ i ≤ g ∧ wr = w')
  case atStart => exact ⟨s, 0, rfl, rfl, by omega, by omega, rfl⟩
  case round =>
    obtain ⟨i, j, rfl, rfl, hij, hg, rfl⟩ := hrel
    match i, hij, hg with
    | i + 1, hij, hg =>
      have y1 : (i : Int) < s := by omega
      have c2 := HH.out.cell (p + i) (by omega)
      have b2 := HH.out.byte (p + i)
      have y2 : (f (p + i) : Int) < 256 := by omega
      rw [Nat.zero_add] at c2
      have r1 := numb_low f j (p + i)
      have l1 := numb_lt HH.out.byte (p + i + 1) j
      have l2 := numb_lt HH.out.byte (p + i) (j + 1)
      have l3 := Nat.pow_le_pow_right (n := 2) (by decide) (show 8 * j ≤ 56 by omega)
      have y3 : (numb f (p + i + 1) j : Int) < 72057594037927936 := by have : (2 : Nat) ^ 56 = 72057594037927936 := rfl
                                                                       omega
      have e1 : ((i + 1 : Nat) : Int) - 1 = i := by omega
      rw [e1, show p + (i + 1) = p + i + 1 by omega]
      have HR : Hid _ := r1
      clear r1 l1 l2 l3 e1
      generalize numb f (p + i + 1) j = v at *
      generalize f (p + i) = c at *
      go_wp2
      go_roundg i
      case measure => omega
      case rel => exact ⟨i, j + 1, by rw [HR.out]; go_num, by go_num, by omega, by omega, rfl⟩
    | 0, hij, hg =>
      have e : j = s := by omega
      subst e
      rw [Nat.add_zero]
      go_wp2
      go_ret2
      exact ⟨rfl, rfl⟩

end Go.Proofs.Ytclcickhgoiooaa

/- Rows of bytes of one's own; copies by append; refusals of Get. -/
namespace Go.Proofs.Ytclcickhgoiooaa
open Go.RowKit

theorem info_u8 : ∃ i, Try.prog.info? 5 = some i ∧ i.zero = some (.int .u8 0) ∧ i.size = 1 ∧ i.bytes = 1 := by
  have h : (Try.prog.info? 5).map (fun i => (i.zero, i.size, i.bytes)) = some (some (.int .u8 0), 1, 1) := by kernel_rfl
  obtain ⟨i, hi, e⟩ := Option.map_eq_some_iff.1 h
  simp only [Prod.mk.injEq] at e
  exact ⟨i, hi, e.1, e.2.1, e.2.2⟩

/-- Bytes, as cells. -/
def bytesOf (f : Nat → Nat) (n : Nat) : List Value := (List.range n).map fun i => .int .u8 ((f i : Nat) : Int)
theorem bytesOf_len (f : Nat → Nat) (n : Nat) : (bytesOf f n).length = n := by simp [bytesOf]
theorem bytesOf_get (f : Nat → Nat) (n i : Nat) (h : i < n) : (bytesOf f n)[i]? = some (.int .u8 ((f i : Nat) : Int)) := by simp [bytesOf, h]
theorem bytesOf_one (f : Nat → Nat) (n : Nat) : ∀ u ∈ bytesOf f n, u.oneCell' = true := by
  intro u hu
  simp only [bytesOf, List.mem_map] at hu
  obtain ⟨i, _, rfl⟩ := hu
  rfl
theorem bytesOf_upd (f : Nat → Nat) (n p v : Nat) : (bytesOf f n).set p (.int .u8 (v : Nat)) = bytesOf (upd f p v) n := by
  apply List.ext_getElem?
  intro i
  by_cases c : i < n
  · rw [bytesOf_get _ _ _ c, List.getElem?_set]
    by_cases e : p = i
    · subst e; rw [if_pos rfl, if_pos (by rw [bytesOf_len]; exact c), upd_same]
    · rw [if_neg e, bytesOf_get _ _ _ c, upd_other _ _ _ _ (by omega)]
  · rw [List.getElem?_eq_none (by rw [List.length_set, bytesOf_len]; omega), List.getElem?_eq_none (by rw [bytesOf_len]; omega)]
theorem bytesOf_snoc (f : Nat → Nat) (n v : Nat) : bytesOf f n ++ [.int .u8 (v : Nat)] = bytesOf (upd f n v) (n + 1) := by
  apply List.ext_getElem?
  intro i
  by_cases c : i < n
  · rw [List.getElem?_append_left (by rw [bytesOf_len]; exact c), bytesOf_get _ _ _ c, bytesOf_get _ _ _ (by omega), upd_other _ _ _ _ (by omega)]
  · rw [List.getElem?_append_right (by rw [bytesOf_len]; omega), bytesOf_len]
    by_cases c' : i = n
    · subst c'; rw [bytesOf_get _ _ _ (by omega), upd_same]; simp
    · rw [List.getElem?_eq_none (by simp; omega), List.getElem?_eq_none (by rw [bytesOf_len]; omega)]

/-- n bytes in a block of one's own, at or above base. -/
structure OP (W : World) (base g n cap : Nat) (f : Nat → Nat) : Prop where
  row : W.ownsRow base 5 1 (.slice (some ⟨g, 0, none⟩) n cap) n (bytesOf f n)
  byte : Bytes f
theorem OP.facts {W : World} {base g n cap : Nat} {f : Nat → Nat} (h : OP W base g n cap f) : base ≤ g ∧ g < W.heap.size ∧ n ≤ cap := by
  obtain ⟨_, h | ⟨g0, cap0, cur, e, h1, h2, h3, _⟩⟩ := h.row
  · cases h.1
  · cases e
    refine ⟨h1, ?_, h3⟩
    by_cases hh : g < W.heap.size
    · exact hh
    · rw [show W.heap[g]? = none from by simp; omega] at h2
      cases h2
theorem OP.bs {W : World} {base g n cap : Nat} {f : Nat → Nat} (h : OP W base g n cap f) : BS W g 0 n f :=
  ⟨h.facts.2.1, fun i hi => by rw [Nat.zero_add, h.row.cellAt i (by omega), bytesOf_get _ _ _ hi], fun i _ => by rw [Nat.zero_add]; exact h.row.frozenAt i, h.byte⟩
theorem OP.set {W : World} {base g n cap : Nat} {f : Nat → Nat} (h : OP W base g n cap f) (p v : Nat) (hv : v < 256) : OP (W.setCell ⟨g, p, none⟩ (.int .u8 (v : Nat))) base g n cap (upd f p v) :=
  ⟨by have := (h.row.stored p (.int .u8 (v : Nat))).1; rwa [bytesOf_upd] at this, h.byte.upd p v hv⟩
theorem OP.kp {W W' : World} {base g n cap : Nat} {f : Nat → Nat} (h : OP W base g n cap f) (k : Kp W W') : OP W' base g n cap f := by
  refine ⟨?_, h.byte⟩
  have hl := h.facts.2.1
  obtain ⟨h0, h | ⟨g0, cap0, cur, e, h1, h2, h3⟩⟩ := h.row
  · cases h.1
  · cases e
    exact ⟨h0, .inr ⟨g, cap, cur, rfl, h1, by rw [k.block g hl]; exact h2, h3⟩⟩
theorem OP.like {W : World} {base g n cap : Nat} {f f' : Nat → Nat} (h : OP W base g n cap f) (hg : ∀ i, i < n → f' i = f i) (hb : Bytes f') : OP W base g n cap f' := by
  have e : bytesOf f' n = bytesOf f n := by
    simp only [bytesOf]
    apply List.map_congr_left
    intro i hi
    rw [hg i (List.mem_range.1 hi)]
  exact ⟨by rw [e]; exact h.row, hb⟩

theorem own_empty (W : World) : (W.alloc (.cells #[] 5)).ownsRow W.heap.size 5 1 (.slice (some ⟨W.heap.size, 0, none⟩) 0 0) 0 [] :=
  ⟨rfl, .inr ⟨W.heap.size, 0, #[], rfl, Nat.le_refl _, by show (W.heap.push _)[W.heap.size]? = _; exact Array.getElem?_push_size, Nat.le_refl _, Nat.zero_le _, rfl, rfl⟩⟩

theorem kp_grown {W W1 W' : World} {r : Option Nat} (h : Kp W W1) (hr : ∀ g, r = some g → W.heap.size ≤ g) (k : W1.grownBy W' r) : Kp W W' :=
  ⟨k.os.trans h.os, k.tape.trans h.tape, k.output.trans h.output, Nat.le_trans h.size k.size, fun i hi => (k.block i (Nat.lt_of_lt_of_le hi h.size) (by intro e; have := hr i e.symm; omega)).trans (h.block i hi)⟩

/-- A row of one's own that is not nil. -/
theorem own_op {W : World} {base n : Nat} {v : Value} {f : Nat → Nat} (h : W.ownsRow base 5 1 v n (bytesOf f n)) (hv : v ≠ .slice none 0 0) (hb : Bytes f) : ∃ g cap, v = .slice (some ⟨g, 0, none⟩) n cap ∧ OP W base g n cap f := by
  have h' := h
  obtain ⟨_, h | ⟨g, cap, cur, rfl, _⟩⟩ := h
  · exact absurd h.1 hv
  · exact ⟨g, cap, rfl, h', hb⟩

/-- The cells of n bytes. -/
def Cells (W : World) (b o n : Nat) (f : Nat → Nat) : Prop := ∀ i, i < n → W.cell? ⟨b, o + i, none⟩ = some (.int .u8 (f i : Nat))
theorem Cells.news {W : World} {b o n : Nat} {f : Nat → Nat} (H : Cells W b o n f) : ∀ j u, (bytesOf f n)[j]? = some u → W.cell? ((⟨b, o, none⟩ : Addr).add j) = some u := by
  intro j u hu
  have hj : j < n := by
    have := (List.getElem?_eq_some_iff.1 hu).1
    rwa [bytesOf_len] at this
  rw [bytesOf_get f n j hj] at hu
  rw [← hu, add_at]; exact H j hj
theorem BS.cells {w : World} {b o m : Nat} {f : Nat → Nat} (h : BS w b o m f) : Cells w b o m f := h.cell

/-- append([]byte{}, p...): a copy of its own. -/
theorem copy_any (W : World) (b o n cap0 : Nat) (f : Nat → Nat) (hlt : b < W.heap.size) (H : Cells W b o n f) (hb : Bytes f) (hn : n ≤ 1000000) :
    ∃ g cap W', (Builtin.append_ #[100, 100] 100 #[.slice (some ⟨W.heap.size, 0, none⟩) 0 0, .slice (some ⟨b, o, none⟩) n cap0]).run Try.prog (W.alloc (.cells #[] 5)) = .ok (.slice (some ⟨g, 0, none⟩) n cap) W' ∧ OP W' W.heap.size g n cap f ∧ Kp W W' := by
  obtain ⟨i0, hi, hz0, hz1, hz2⟩ := info_u8
  have hk : Kp W (W.alloc (.cells #[] 5)) := (Kp.refl W).alloc _
  have H1 : Cells (W.alloc (.cells #[] 5)) b o n f := fun i hi => by rw [hk.cell (p := ⟨b, o + i, none⟩) hlt]; exact H i hi
  obtain ⟨v', W', h1, h2, h3, h4⟩ := run_append_own (P := Try.prog) (W.alloc (.cells #[] 5)) W.heap.size 100 100 5 i0 (.int .u8 0) 1 1 Try.underlying100 hi hz0 hz1 hz2 rfl (by decide) _ 0 [] (own_empty W) ⟨b, o, none⟩ n cap0 (bytesOf f n) (by rw [bytesOf_len]; omega) H1.news (bytesOf_one f n) (by unfold maxLen; omega) (by omega) (by simp)
  rw [List.nil_append, Nat.zero_add] at h2
  obtain ⟨g, cap, rfl, k1⟩ := own_op h2 (fun e => by have := (h4.1 e).1; cases this) hb
  exact ⟨g, cap, W', h1, k1, kp_grown hk (fun g hg => by cases hg; exact Nat.le_refl _) h3⟩
theorem copy_none (W : World) (f : Nat → Nat) (hb : Bytes f) :
    (Builtin.append_ #[100, 100] 100 #[.slice (some ⟨W.heap.size, 0, none⟩) 0 0, .slice none 0 0]).run Try.prog (W.alloc (.cells #[] 5)) = .ok (.slice (some ⟨W.heap.size, 0, none⟩) 0 0) (W.alloc (.cells #[] 5)) ∧ OP (W.alloc (.cells #[] 5)) W.heap.size W.heap.size 0 0 f := by
  obtain ⟨i0, hi, hz0, hz1, hz2⟩ := info_u8
  exact ⟨run_append_owned_none (P := Try.prog) (w := W.alloc (.cells #[] 5)) W.heap.size 100 100 5 i0 1 Try.underlying100 hi _ 0 [] (own_empty W), own_empty W, hb⟩

/-- append(q, c) of a row of one's own. -/
theorem snoc_any (W : World) (base g n cap c : Nat) (f : Nat → Nat) (H : OP W base g n cap f) (hc : c < 256) (hbase : base ≤ W.heap.size) (hn : n ≤ 1000000) :
    ∃ g' cap' W', (Builtin.append_ #[100, 100] 100 #[.slice (some ⟨g, 0, none⟩) n cap, .slice (some ⟨W.heap.size, 0, none⟩) 1 1]).run Try.prog (W.alloc (.cells #[.int .u8 (c : Nat)] 5)) = .ok (.slice (some ⟨g', 0, none⟩) (n + 1) cap') W' ∧
      OP W' base g' (n + 1) cap' (upd f n c) ∧ (∀ W0, W0.heap.size ≤ base → Kp W0 W → Kp W0 W') := by
  obtain ⟨i0, hi, hz0, hz1, hz2⟩ := info_u8
  have H1 := H.row.alloc (.cells #[.int .u8 (c : Nat)] 5)
  have hnew : ∀ j u, ([.int .u8 (c : Nat)] : List Value)[j]? = some u → (W.alloc (.cells #[.int .u8 (c : Nat)] 5)).cell? ((⟨W.heap.size, 0, none⟩ : Addr).add j) = some u := by
    intro j u hu
    match j with
    | 0 => simp at hu; subst hu; show (W.alloc _).cell? ⟨W.heap.size, 0, none⟩ = _; rw [World.cell?_alloc_at _ _ _ _ rfl]; rfl
    | j + 1 => simp at hu
  obtain ⟨v', W', h1, h2, h3, h4⟩ := run_append_own (P := Try.prog) (W.alloc (.cells #[.int .u8 (c : Nat)] 5)) base 100 100 5 i0 (.int .u8 0) 1 1 Try.underlying100 hi hz0 hz1 hz2 rfl (by decide) _ n _ H1 ⟨W.heap.size, 0, none⟩ 1 1 [.int .u8 (c : Nat)] rfl hnew (by intro u hu; simp at hu; subst hu; rfl) (by unfold maxLen; omega) (by omega) (by simp; omega)
  rw [bytesOf_snoc] at h2
  obtain ⟨g', cap', rfl, k1⟩ := own_op h2 (fun e => by have := (h4.1 e).1; cases this) (H.byte.upd _ _ hc)
  exact ⟨g', cap', W', h1, k1, fun W0 h0 hk => kp_grown (hk.alloc _) (fun g' hg => by cases hg; exact Nat.le_trans h0 H.facts.1) h3⟩


/-- Bytes as a string. -/
def strOf (f : Nat → Nat) (n : Nat) : ByteArray := ((List.range n).map fun i => ((f i : Nat) : Int)).foldl (fun r n => r.push (UInt8.ofNat n.toNat)) ByteArray.empty
theorem strOf_like {f g : Nat → Nat} {n : Nat} (h : ∀ i, i < n → f i = g i) : strOf f n = strOf g n := by
  unfold strOf
  congr 1
  apply List.map_congr_left
  intro i hi
  rw [h i (List.mem_range.1 hi)]
theorem string_any (w : World) (b o n cap : Nat) (f : Nat → Nat) (H : Cells w b o n f) :
    (convert 100 9 (.slice (some ⟨b, o, none⟩) n cap)).run Try.prog w = .ok (.string (strOf f n)) w := by
  rw [run_convert_bytes_string w 100 9 5 _ _ _ Try.underlying100 Try.underlying5 Try.underlying9]
  refine run_bytesToString w ⟨b, o, none⟩ n cap _ ?_
  have := run_loadCells_list (P := Try.prog) (w := w) ⟨b, o, none⟩ (bytesOf f n) H.news
  rw [bytesOf_len] at this
  rw [this]
  simp [bytesOf]

/-! ### refusals -/
set_option maxHeartbeats 2000000 in
theorem get_none (na : Option Addr) (n cap : Nat) (p s r : Int) (w : World) (hn : n ≤ 1000000) (h3 : -9223372036854775808 ≤ p) (h4 : p ≤ 9223372036854775807) (hc : chk n p s = r) (hr : r ≠ 0) :
    Calls Try.prog 86 #[.slice na n cap, .int .i64 p, .int .i64 s] w fun e w' => e = .returned (.tuple #[.int .u64 0, .int .i64 r]) ∧ w' = w := by
  have c1 := fun w => check_any n p s w (by omega) (by omega) h3 h4
  rw [hc] at c1
  have z : (r != 0) = true := by simp [hr]
  clear hc h3 h4 hr
  go_enter Try.func86, Try.ntmps86
  go_wp2_with (go_at_call 70; with_reducible refine (c1 _).mono ?_; rintro e w' ⟨rfl, rfl⟩)
  go_ret2
  exact ⟨rfl, rfl⟩
set_option maxHeartbeats 2000000 in
theorem rget_none (na : Option Addr) (n cap : Nat) (p s r : Int) (w : World) (hn : n ≤ 1000000) (h3 : -9223372036854775808 ≤ p) (h4 : p ≤ 9223372036854775807) (hc : chk n p s = r) (hr : r ≠ 0) :
    Calls Try.prog 67 #[.slice na n cap, .int .i64 p, .int .i64 s] w fun e w' => e = .returned (.tuple #[.int .u64 0, .int .i64 r]) ∧ w' = w := by
  have c1 := fun w => bad_any n p s w (by omega) (by omega) h3 h4
  rw [hc] at c1
  have z : (r != 0) = true := by simp [hr]
  clear hc h3 h4 hr
  go_enter Try.func67, Try.ntmps67
  go_wp2_with (go_at_call 80; with_reducible refine (c1 _).mono ?_; rintro e w' ⟨rfl, rfl⟩)
  go_ret2
  exact ⟨rfl, rfl⟩
set_option maxHeartbeats 2000000 in
theorem put_none (na : Option Addr) (n cap : Nat) (p s r : Int) (v : Int) (w : World) (hn : n ≤ 1000000) (h3 : -9223372036854775808 ≤ p) (h4 : p ≤ 9223372036854775807) (hc : chk n p s = r) (hr : r ≠ 0) :
    Calls Try.prog 55 #[.slice na n cap, .int .i64 p, .int .i64 s, .int .u64 v] w fun e w' => e = .returned (.tuple #[.slice none 0 0, .int .i64 r]) ∧ w' = w := by
  have c1 := fun w => check_any n p s w (by omega) (by omega) h3 h4
  rw [hc] at c1
  have z : (r != 0) = true := by simp [hr]
  clear hc h3 h4 hr
  go_enter Try.func55, Try.ntmps55
  go_wp2_with (go_at_call 70; with_reducible refine (c1 _).mono ?_; rintro e w' ⟨rfl, rfl⟩)
  go_ret2
  exact ⟨rfl, rfl⟩
end Go.Proofs.Ytclcickhgoiooaa

/- Put, the program's and the document's. -/
namespace Go.Proofs.Ytclcickhgoiooaa
open Go.RowKit

/-- f with v's k low bytes from p on. -/
def putF (f : Nat → Nat) (p k v : Nat) : Nat → Nat := fun i => if p ≤ i ∧ i < p + k then v / 2 ^ (8 * (i - p)) % 256 else f i
theorem putF_zero (f : Nat → Nat) (p v : Nat) : putF f p 0 v = f := by funext i; unfold putF; rw [if_neg (by omega)]
theorem putF_succ (f : Nat → Nat) (p k v : Nat) : upd (putF f p k v) (p + k) (v / 2 ^ (8 * k) % 256) = putF f p (k + 1) v := by
  funext i
  unfold upd putF
  by_cases e : i = p + k
  · subst e; rw [if_pos rfl, if_pos (by omega), show p + k - p = k by omega]
  · rw [if_neg e]
    by_cases c : p ≤ i ∧ i < p + k
    · rw [if_pos c, if_pos (by omega)]
    · rw [if_neg c, if_neg (by omega)]
theorem putF_byte {f : Nat → Nat} (h : Bytes f) (p k v : Nat) : Bytes (putF f p k v) := fun i => by
  unfold putF; split
  · omega
  · exact h i

set_option maxHeartbeats 2000000 in
set_option maxRecDepth 10000 in
theorem clone_any (b n cap : Nat) (f : Nat → Nat) (w : World) (H : BS w b 0 n f) (hn : n ≤ 1000000) :
    Calls Try.prog 71 #[.slice (some ⟨b, 0, none⟩) n cap] w fun e w' => ∃ g cap', e = .returned (.slice (some ⟨g, 0, none⟩) n cap') ∧ OP w' w.heap.size g n cap' f ∧ Kp w w' := by
  obtain ⟨g, cap', W', h1, h2, h3⟩ := copy_any w b 0 n cap f H.lt H.cells H.byte hn
  have H2 : Hid _ := h2
  have H3 : Hid _ := h3
  clear H h2 h3
  have hq : (Try.prog.underlying 100) = some (.slice 5) := Try.underlying100
  have h0 : ∀ w, (binOp .eql 100 (.slice (some ⟨b, 0, none⟩) n cap) (.slice none 0 0)).run Try.prog w = .ok (.bool false) w := fun w => by
    simp [binOp, run_equal_slice_nil w 100 5 _ n cap hq]
  go_enter Try.func71, Try.ntmps71
  repeat' (first | ((with_reducible refine wp_append_of h1 (.tmp 5) (.tmp 6) ?_ ?_ ?_ ?_ ?_); rfl; rfl; rfl; rfl) | go_values | go_skip | go_guarded | go_step | go_upon | go_back | (simp only []) | (go_values <;> (try go_simp)) | (go_ite <;> go_prune <;> (try go_simp)))
  go_ret
  exact ⟨g, cap', rfl, H2.out, H3.out⟩

theorem shr_byte (v k : Nat) : IntKind.u8.wrap ((v : Int) / 2 ^ (8 * k)) = ((v / 2 ^ (8 * k) % 256 : Nat) : Int) := by
  have e : (v : Int) / 2 ^ (8 * k) = ((v / 2 ^ (8 * k) : Nat) : Int) := by simp
  rw [e]
  simp [IntKind.wrap, IntKind.bits, IntKind.signed]

set_option maxHeartbeats 2000000 in
set_option maxRecDepth 10000 in
theorem put_some (b n cap p s v : Nat) (f : Nat → Nat) (w : World) (H : BS w b 0 n f) (hn : n ≤ 1000000) (hs : s ≤ 8) (hp : p + s ≤ n) (hv : v < 18446744073709551616) (hc : chk n p s = 0) :
    Calls Try.prog 55 #[.slice (some ⟨b, 0, none⟩) n cap, .int .i64 (p : Int), .int .i64 (s : Int), .int .u64 (v : Int)] w fun e w' => ∃ g cap', e = .returned (.tuple #[.slice (some ⟨g, 0, none⟩) n cap', .int .i64 0]) ∧ OP w' w.heap.size g n cap' (putF f p s v) ∧ Kp w w' := by
  have c1 := fun w => check_any n p s w (by omega) (by omega) (by omega) (by omega)
  rw [hc] at c1
  have c2 := clone_any b n cap f w H hn
  have z1 : (p : Int) + s ≤ n := by omega
  have z3 : (n : Int) ≤ 1000000 := by omega
  have z4 : (s : Int) ≤ 8 := by omega
  have z5 : (v : Int) < 18446744073709551616 := by omega
  clear H hc hv
  go_enter Try.func55, Try.ntmps55
  go_wp2_with (go_at_call 70; with_reducible refine (c1 _).mono ?_; rintro e w' ⟨rfl, rfl⟩)
  with_reducible refine c2.mono ?_
  rintro e w1 ⟨g, cap', rfl, O1, K1⟩
  have HO : Hid _ := O1
  have HK : Hid _ := K1
  clear O1 K1 c2
  go_wp2_with fail
  go_loopg [24] s (fun gg v24 wr => ∃ k : Nat, v24 = .int .i64 k ∧ k ≤ s ∧ s - k ≤ gg ∧ Aside (OP wr w'.heap.size g n cap' (putF f p k v)) ∧ Aside (Kp w' wr))
  case atStart => exact ⟨0, rfl, by omega, by omega, by rw [putF_zero]; exact HO.out, HK.out⟩
  case round =>
    clear HO HK
    obtain ⟨k, rfl, hk, hg, HO, HK⟩ := hrel
    by_cases hlt : k < s
    · have y1 : (k : Int) < s := by omega
      have c2 := HO.out.bs.cell (p + k) (by omega)
      have c3 := HO.out.bs.frz (p + k) (by omega)
      rw [Nat.zero_add] at c2 c3
      have q := shr_byte v k
      have O2 := HO.out.set (p + k) (v / 2 ^ (8 * k) % 256) (by omega)
      rw [putF_succ] at O2
      have K2 := HK.out.set ⟨g, p + k, none⟩ (.int .u8 ((v / 2 ^ (8 * k) % 256 : Nat) : Int)) HO.out.facts.1
      generalize v / 2 ^ (8 * k) % 256 = d at *
      have A2 : Aside _ := O2
      have B2 : Aside _ := K2
      clear O2 K2
      go_wp2
      go_roundg (s - (k + 1))
      case measure => omega
      case rel => exact ⟨k + 1, by go_num, by omega, by omega, A2, B2⟩
    · have e : k = s := by omega
      subst e
      go_wp2
      go_ret2
      exact ⟨g, cap', rfl, HO.out, HK.out⟩

theorem div_step (v k : Nat) : v / 2 ^ (8 * k) / 256 = v / 2 ^ (8 * (k + 1)) := by
  rw [Nat.div_div_eq_div_mul, show 8 * (k + 1) = 8 * k + 8 by omega, Nat.pow_add]

end Go.Proofs.Ytclcickhgoiooaa

/- Levels: indices and spans, the program's and the document's; no such bits. -/
namespace Go.Proofs.Ytclcickhgoiooaa
open Go.RowKit

/-- How many bits an address's index of a level stands above the lowest. -/
def sh (level : Int) : Nat := 39 - 9 * level.toNat
def isLv (level : Int) : Bool := decide (0 ≤ level ∧ level ≤ 3)
def spn (level : Int) : Nat := if isLv level = true then 2 ^ sh level else 0
def idx (u : Nat) (level : Int) : Nat := if isLv level = true then fieldN u (sh level) 9 else 0
theorem field_lt (u low n : Nat) : fieldN u low n < 2 ^ n := Nat.mod_lt _ (Nat.two_pow_pos n)
theorem idx_lt (u : Nat) (level : Int) : idx u level < 512 := by
  unfold idx; split
  · exact field_lt _ _ _
  · decide

theorem isLevel_any (level : Int) (w : World) : Calls Try.prog 87 #[.int .i64 level] w fun e w' => e = .returned (.bool (isLv level)) ∧ w' = w := by
  by_cases c1 : 0 ≤ level
  · by_cases c2 : level ≤ 3
    · rw [show isLv level = true from decide_eq_true ⟨c1, c2⟩]
      go_enter Try.func87, Try.ntmps87
      go_wp2
      go_ret
      exact ⟨rfl, rfl⟩
    · rw [show isLv level = false from decide_eq_false (by omega)]
      go_enter Try.func87, Try.ntmps87
      go_wp2
      go_ret
      exact ⟨rfl, rfl⟩
  · rw [show isLv level = false from decide_eq_false (by omega)]
    go_enter Try.func87, Try.ntmps87
    go_wp2
    go_ret
    exact ⟨rfl, rfl⟩
theorem isLv_iff {level : Int} : isLv level = true ↔ 0 ≤ level ∧ level ≤ 3 := by unfold isLv; exact decide_eq_true_iff
theorem isLv_not {level : Int} (h : ¬ (0 ≤ level ∧ level ≤ 3)) : isLv level = false := decide_eq_false h

theorem lowBit_any (level : Int) (w : World) (h : 0 ≤ level ∧ level ≤ 3) : Calls Try.prog 88 #[.int .i64 level] w fun e w' => e = .returned (.int .i64 (sh level : Nat)) ∧ w' = w := by
  obtain ⟨h1, h2⟩ := h
  have e : (sh level : Int) = 12 + 9 * (3 - level) := by unfold sh; omega
  rw [e]
  go_enter Try.func88, Try.ntmps88
  go_wp2
  go_ret
  exact ⟨rfl, rfl⟩

theorem index_any (u : Nat) (level : Int) (w : World) (hu : u < 18446744073709551616) :
    Calls Try.prog 82 #[.int .u64 (u : Int), .int .i64 level] w fun e w' => e = .returned (.int .i64 (idx u level : Nat)) ∧ Dr w w' := by
  have c1 := isLevel_any level
  by_cases c : 0 ≤ level ∧ level ≤ 3
  · have e : idx u level = fieldN u (sh level) 9 := by unfold idx; rw [if_pos (isLv_iff.2 c)]
    rw [isLv_iff.2 c] at c1
    have c2 := fun w => lowBit_any level w c
    have c3 : ∀ w, Calls Try.prog 89 #[.int .u64 (u : Int), .int .i64 (sh level : Nat), .int .i64 9] w fun e w' => e = .returned (.int .u64 (fieldN u (sh level) 9 : Nat)) ∧ Dr w w' := fun w => field_any u (sh level) 9 w hu (by decide) (by unfold sh; omega)
    have l := field_lt u (sh level) 9
    rw [e]
    clear e c
    generalize fieldN u (sh level) 9 = r at *
    generalize sh level = k at *
    have l2 : (r : Int) < 512 := by omega
    go_enter Try.func82, Try.ntmps82
    go_wp2_with (first | (go_at_call 87; with_reducible refine (c1 _).mono ?_; rintro e w' ⟨rfl, rfl⟩) | (go_at_call 88; with_reducible refine (c2 _).mono ?_; rintro e w' ⟨rfl, rfl⟩))
    with_reducible refine (c3 _).mono ?_
    rintro e w1 ⟨rfl, D⟩
    have HD : Hid _ := D
    clear D
    go_wp2
    go_ret
    exact ⟨rfl, HD.out⟩
  · have e : idx u level = 0 := by unfold idx; rw [isLv_not c]; rfl
    rw [isLv_not c] at c1
    rw [e]
    clear e c
    go_enter Try.func82, Try.ntmps82
    go_wp2_with (go_at_call 87; with_reducible refine (c1 _).mono ?_; rintro e w' ⟨rfl, rfl⟩)
    go_ret
    exact ⟨rfl, Dr.refl _⟩

theorem pow_sh (level : Int) : (2 : Nat) ^ sh level < 18446744073709551616 := by
  have : (2 : Nat) ^ sh level ≤ 2 ^ 39 := Nat.pow_le_pow_right (by decide) (by unfold sh; omega)
  exact Nat.lt_of_le_of_lt this (by decide)

theorem span_any (level : Int) (w : World) :
    Calls Try.prog 78 #[.int .i64 level] w fun e w' => e = .returned (.int .u64 (spn level : Nat)) ∧ w' = w := by
  have c1 := isLevel_any level
  by_cases c : 0 ≤ level ∧ level ≤ 3
  · have e : spn level = 2 ^ sh level := by unfold spn; rw [if_pos (isLv_iff.2 c)]
    rw [isLv_iff.2 c] at c1
    have c2 := fun w => lowBit_any level w c
    have l : (sh level : Int) ≤ 39 := by unfold sh; omega
    have q := shl_mod (c := 1) (low := sh level) (by rw [Nat.one_mul]; exact pow_sh level)
    have q2 : IntKind.u64.wrap (2 ^ sh level) = ((2 ^ sh level : Nat) : Int) := by
      rw [Nat.one_mul] at q
      rw [← q]; congr 1; simp
    rw [e]
    have q3 : (2 : Int) ^ sh level % 18446744073709551616 = ((2 ^ sh level : Nat) : Int) := by
      rw [← q2]; simp [IntKind.wrap, IntKind.bits, IntKind.signed]
    clear e c q
    generalize ((2 ^ sh level : Nat) : Int) = r at *
    generalize sh level = k at *
    go_enter Try.func78, Try.ntmps78
    go_wp2_with (first | (go_at_call 87; with_reducible refine (c1 _).mono ?_; rintro e w' ⟨rfl, rfl⟩) | (go_at_call 88; with_reducible refine (c2 _).mono ?_; rintro e w' ⟨rfl, rfl⟩))
    go_ret
    exact ⟨rfl, rfl⟩
  · have e : spn level = 0 := by unfold spn; rw [isLv_not c]; rfl
    rw [isLv_not c] at c1
    rw [e]
    clear e c
    go_enter Try.func78, Try.ntmps78
    go_wp2_with (go_at_call 87; with_reducible refine (c1 _).mono ?_; rintro e w' ⟨rfl, rfl⟩)
    go_ret
    exact ⟨rfl, rfl⟩

set_option maxHeartbeats 1000000 in
theorem rspan_any (level : Int) (w : World) :
    Calls Try.prog 59 #[.int .i64 level] w fun e w' => e = .returned (.int .u64 (spn level : Nat)) ∧ w' = w := by
  by_cases c0 : level = 0
  · subst c0
    rw [show ((spn 0 : Nat) : Int) = 549755813888 from by decide +kernel]
    go_enter Try.func59, Try.ntmps59
    go_wp2_with fail
    refine wp_loop_rounds 4 ?_
    rw [rounds_succ]; go_wp2
    rw [rounds_succ]; go_wp2
    rw [rounds_succ]; go_wp2
    rw [rounds_succ]; go_wp2
    go_ret
    exact ⟨rfl, rfl⟩
  by_cases c1 : level = 1
  · subst c1
    rw [show ((spn 1 : Nat) : Int) = 1073741824 from by decide +kernel]
    go_enter Try.func59, Try.ntmps59
    go_wp2_with fail
    refine wp_loop_rounds 4 ?_
    rw [rounds_succ]; go_wp2
    rw [rounds_succ]; go_wp2
    rw [rounds_succ]; go_wp2
    go_ret
    exact ⟨rfl, rfl⟩
  by_cases c2 : level = 2
  · subst c2
    rw [show ((spn 2 : Nat) : Int) = 2097152 from by decide +kernel]
    go_enter Try.func59, Try.ntmps59
    go_wp2_with fail
    refine wp_loop_rounds 4 ?_
    rw [rounds_succ]; go_wp2
    rw [rounds_succ]; go_wp2
    go_ret
    exact ⟨rfl, rfl⟩
  by_cases c3 : level = 3
  · subst c3
    rw [show ((spn 3 : Nat) : Int) = 4096 from by decide +kernel]
    go_enter Try.func59, Try.ntmps59
    go_wp2_with fail
    refine wp_loop_rounds 4 ?_
    rw [rounds_succ]; go_wp2
    go_ret
    exact ⟨rfl, rfl⟩
  have e : spn level = 0 := by unfold spn; rw [isLv_not (by omega)]; rfl
  rw [e]
  by_cases c : level < 0
  · go_enter Try.func59, Try.ntmps59
    go_wp2
    go_ret
    exact ⟨rfl, rfl⟩
  · have c' : 3 < level := by omega
    go_enter Try.func59, Try.ntmps59
    go_wp2
    go_ret
    exact ⟨rfl, rfl⟩

set_option maxHeartbeats 1000000 in
set_option maxRecDepth 10000 in
theorem rindex_any (u : Nat) (level : Int) (w : World) (hu : u < 18446744073709551616) :
    Calls Try.prog 65 #[.int .u64 (u : Int), .int .i64 level] w fun e w' => e = .returned (.int .i64 (idx u level : Nat)) ∧ w' = w := by
  have c1 := rspan_any level
  by_cases c : 0 ≤ level ∧ level ≤ 3
  · have e : idx u level = u / spn level % 512 := by unfold idx spn; rw [if_pos (isLv_iff.2 c), if_pos (isLv_iff.2 c)]; rfl
    have p : 0 < spn level := by unfold spn; rw [if_pos (isLv_iff.2 c)]; exact Nat.two_pow_pos _
    have p1 : ¬ ((spn level : Nat) : Int) = 0 := by omega
    have p2 : (0 : Int) < spn level := by omega
    have q : (u : Int) / (spn level : Nat) % 512 = (idx u level : Nat) := by rw [e]; simp
    have l := idx_lt u level
    have l1 : u / spn level < 18446744073709551616 := Nat.lt_of_le_of_lt (Nat.div_le_self _ _) hu
    have q1 : (u : Int) / (spn level : Nat) = ((u / spn level : Nat) : Int) := by simp
    rw [q1] at q
    clear e c p
    generalize spn level = s at *
    generalize idx u level = r at *
    generalize u / s = d at *
    have l2 : (r : Int) < 512 := by omega
    have l3 : (d : Int) < 18446744073709551616 := by omega
    have l4 : (u : Int) < 18446744073709551616 := by omega
    have F : Hid (wrap64 ((IntKind.u64.wrap (d : Int)).tmod 512) = r) := by
      have e1 : IntKind.u64.wrap (d : Int) = d := by simp [IntKind.wrap, IntKind.bits, IntKind.signed]; omega
      show wrap64 ((IntKind.u64.wrap (d : Int)).tmod 512) = r
      rw [e1, Int.tmod_eq_emod_of_nonneg (by omega), q]
      unfold wrap64; omega
    clear hu l1 l l3 l4 q l2
    go_enter Try.func65, Try.ntmps65
    go_wp2_with (go_at_call 59; with_reducible refine (c1 _).mono ?_; rintro e w' ⟨rfl, rfl⟩)
    go_ret
    exact ⟨congrArg (fun z => Ending.returned (Value.int .i64 z)) F.out, rfl⟩
  · have e : idx u level = 0 := by unfold idx; rw [isLv_not c]; rfl
    have e2 : spn level = 0 := by unfold spn; rw [isLv_not c]; rfl
    rw [e2] at c1
    rw [e]
    go_enter Try.func65, Try.ntmps65
    go_wp2_with (go_at_call 59; with_reducible refine (c1 _).mono ?_; rintro e w' ⟨rfl, rfl⟩)
    go_ret
    exact ⟨rfl, rfl⟩

end Go.Proofs.Ytclcickhgoiooaa
