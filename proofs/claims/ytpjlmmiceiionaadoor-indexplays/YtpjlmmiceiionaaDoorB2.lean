/- bits.check and the document's: what refuses a place of some bytes. -/
import Derived.Test.YtpjlmmiceiionaaDoorJ08
import Derived.WalkMore
import Derived.ScopeJumps
namespace Go.Proofs.YtpjlmmiceiionaaDoor
open Go.RowKit
set_option maxRecDepth 10000

/-- Why a size and a place of so many bytes may not be. -/
def chk (len p size : Int) : Int := if size ≠ 1 ∧ size ≠ 2 ∧ size ≠ 4 ∧ size ≠ 8 then 1 else if p.tmod size ≠ 0 then 3 else if p < 0 ∨ len < p + size then 2 else 0

theorem chk_of {len p size : Int} (h : size = 1 ∨ size = 2 ∨ size = 4 ∨ size = 8) : chk len p size = if p.tmod size ≠ 0 then 3 else if p < 0 ∨ len < p + size then 2 else 0 := by
  unfold chk; rw [if_neg (by omega)]

set_option maxHeartbeats 2000000 in
set_option maxRecDepth 10000 in
theorem check_other (len p size : Int) (w : World) (h : size ≠ 1 ∧ size ≠ 2 ∧ size ≠ 4 ∧ size ≠ 8) :
    Calls Tryd.prog 54 #[.int .i64 len, .int .i64 p, .int .i64 size] w fun e w' => e = .returned (.int .i64 (chk len p size)) ∧ w' = w := by
  rw [show chk len p size = 1 from if_pos h]
  have h1 : ¬ (1 : Int) = size := by omega
  have h2 : ¬ (2 : Int) = size := by omega
  have h4 : ¬ (4 : Int) = size := by omega
  have h8 : ¬ (8 : Int) = size := by omega
  clear h
  go_enter Tryd.func54, Tryd.ntmps54
  go_wp2_with fail
  go_step3
  go_wp2_with fail
  refine wp_loop_rounds 9 ?_
  rw [rounds_succ]; go_wp2
  rw [rounds_succ]; go_wp2
  rw [rounds_succ]; go_wp2
  rw [rounds_succ]; go_wp2
  rw [rounds_succ]; go_wp2
  rw [rounds_succ]; go_wp2
  rw [rounds_succ]; go_wp2
  rw [rounds_succ]; go_wp2
  rw [rounds_succ]; go_wp2
  rw [Exit.noGoto_ret]
  go_ret
  exact ⟨rfl, rfl⟩

set_option maxHeartbeats 2000000 in
set_option maxRecDepth 10000 in
theorem check_1 (len p : Int) (w : World) (h1 : 0 ≤ len) (h2 : len ≤ 1000000) (h3 : -9223372036854775808 ≤ p) (h4 : p ≤ 9223372036854775807) :
    Calls Tryd.prog 54 #[.int .i64 len, .int .i64 p, .int .i64 1] w fun e w' => e = .returned (.int .i64 (chk len p 1)) ∧ w' = w := by
  go_enter Tryd.func54, Tryd.ntmps54
  go_wp2_with fail
  refine wp_scope_jumps 0 (fun a' w' => w' = w ∧ ∃ u3 u4 u5 u6 u7 u8 u9 u10 u11 u12 u13 u14 u15 u16 u17 u18 u19 u20 u21 u22 u23 u24 u25 u26 u27 u28 u29 u30 u31 u32 u33 : Value, a' = { tmps := #[.int .i64 len, .int .i64 p, .int .i64 1, u3, u4, u5, u6, u7, u8, u9, u10, u11, u12, u13, u14, u15, u16, u17, u18, u19, u20, u21, u22, u23, u24, u25, u26, u27, u28, u29, u30, u31, u32, u33], defers := [] }) (fun _ _ => 0) rfl ?_ ?_
  · go_wp2_with fail
    refine wp_loop_rounds 9 ?_
    rw [rounds_succ]; go_wp2
    go_step3
    exact ⟨rfl, rfl, _, _, _, _, _, _, _, _, _, _, _, _, _, _, _, _, _, _, _, _, _, _, _, _, _, _, _, _, _, _, _, rfl⟩
  · rintro a' w' ⟨rfl, u3, u4, u5, u6, u7, u8, u9, u10, u11, u12, u13, u14, u15, u16, u17, u18, u19, u20, u21, u22, u23, u24, u25, u26, u27, u28, u29, u30, u31, u32, u33, rfl⟩
    by_cases e1 : p.tmod 1 = 0
    · by_cases e2 : p < 0
      · have hr : chk len p 1 = 2 := by rw [chk_of (by omega), if_neg (by omega), if_pos (by omega)]
        go_wp2
        simp only [Exit.jump]
        go_ret
        exact ⟨by rw [hr]; rfl, rfl⟩
      · by_cases e3 : len - 1 < p
        · have hr : chk len p 1 = 2 := by rw [chk_of (by omega), if_neg (by omega), if_pos (by omega)]
          go_wp2
          simp only [Exit.jump]
          go_ret
          exact ⟨by rw [hr]; rfl, rfl⟩
        · have hr : chk len p 1 = 0 := by rw [chk_of (by omega), if_neg (by omega), if_neg (by omega)]
          go_wp2
          simp only [Exit.jump]
          go_ret
          exact ⟨by rw [hr]; rfl, rfl⟩
    · exact absurd (Int.tmod_one p) e1

set_option maxHeartbeats 2000000 in
set_option maxRecDepth 10000 in
theorem check_2 (len p : Int) (w : World) (h1 : 0 ≤ len) (h2 : len ≤ 1000000) (h3 : -9223372036854775808 ≤ p) (h4 : p ≤ 9223372036854775807) :
    Calls Tryd.prog 54 #[.int .i64 len, .int .i64 p, .int .i64 2] w fun e w' => e = .returned (.int .i64 (chk len p 2)) ∧ w' = w := by
  go_enter Tryd.func54, Tryd.ntmps54
  go_wp2_with fail
  refine wp_scope_jumps 0 (fun a' w' => w' = w ∧ ∃ u3 u4 u5 u6 u7 u8 u9 u10 u11 u12 u13 u14 u15 u16 u17 u18 u19 u20 u21 u22 u23 u24 u25 u26 u27 u28 u29 u30 u31 u32 u33 : Value, a' = { tmps := #[.int .i64 len, .int .i64 p, .int .i64 2, u3, u4, u5, u6, u7, u8, u9, u10, u11, u12, u13, u14, u15, u16, u17, u18, u19, u20, u21, u22, u23, u24, u25, u26, u27, u28, u29, u30, u31, u32, u33], defers := [] }) (fun _ _ => 0) rfl ?_ ?_
  · go_wp2_with fail
    refine wp_loop_rounds 9 ?_
    rw [rounds_succ]; go_wp2
    rw [rounds_succ]; go_wp2
    go_step3
    exact ⟨rfl, rfl, _, _, _, _, _, _, _, _, _, _, _, _, _, _, _, _, _, _, _, _, _, _, _, _, _, _, _, _, _, _, _, rfl⟩
  · rintro a' w' ⟨rfl, u3, u4, u5, u6, u7, u8, u9, u10, u11, u12, u13, u14, u15, u16, u17, u18, u19, u20, u21, u22, u23, u24, u25, u26, u27, u28, u29, u30, u31, u32, u33, rfl⟩
    by_cases e1 : p.tmod 2 = 0
    · by_cases e2 : p < 0
      · have hr : chk len p 2 = 2 := by rw [chk_of (by omega), if_neg (by omega), if_pos (by omega)]
        go_wp2
        simp only [Exit.jump]
        go_ret
        exact ⟨by rw [hr]; rfl, rfl⟩
      · by_cases e3 : len - 2 < p
        · have hr : chk len p 2 = 2 := by rw [chk_of (by omega), if_neg (by omega), if_pos (by omega)]
          go_wp2
          simp only [Exit.jump]
          go_ret
          exact ⟨by rw [hr]; rfl, rfl⟩
        · have hr : chk len p 2 = 0 := by rw [chk_of (by omega), if_neg (by omega), if_neg (by omega)]
          go_wp2
          simp only [Exit.jump]
          go_ret
          exact ⟨by rw [hr]; rfl, rfl⟩
    · have hr : chk len p 2 = 3 := by rw [chk_of (by omega), if_pos (by omega)]
      go_wp2
      simp only [Exit.jump]
      go_ret
      exact ⟨by rw [hr]; rfl, rfl⟩

set_option maxHeartbeats 2000000 in
set_option maxRecDepth 10000 in
theorem check_4 (len p : Int) (w : World) (h1 : 0 ≤ len) (h2 : len ≤ 1000000) (h3 : -9223372036854775808 ≤ p) (h4 : p ≤ 9223372036854775807) :
    Calls Tryd.prog 54 #[.int .i64 len, .int .i64 p, .int .i64 4] w fun e w' => e = .returned (.int .i64 (chk len p 4)) ∧ w' = w := by
  go_enter Tryd.func54, Tryd.ntmps54
  go_wp2_with fail
  refine wp_scope_jumps 0 (fun a' w' => w' = w ∧ ∃ u3 u4 u5 u6 u7 u8 u9 u10 u11 u12 u13 u14 u15 u16 u17 u18 u19 u20 u21 u22 u23 u24 u25 u26 u27 u28 u29 u30 u31 u32 u33 : Value, a' = { tmps := #[.int .i64 len, .int .i64 p, .int .i64 4, u3, u4, u5, u6, u7, u8, u9, u10, u11, u12, u13, u14, u15, u16, u17, u18, u19, u20, u21, u22, u23, u24, u25, u26, u27, u28, u29, u30, u31, u32, u33], defers := [] }) (fun _ _ => 0) rfl ?_ ?_
  · go_wp2_with fail
    refine wp_loop_rounds 9 ?_
    rw [rounds_succ]; go_wp2
    rw [rounds_succ]; go_wp2
    rw [rounds_succ]; go_wp2
    rw [rounds_succ]; go_wp2
    go_step3
    exact ⟨rfl, rfl, _, _, _, _, _, _, _, _, _, _, _, _, _, _, _, _, _, _, _, _, _, _, _, _, _, _, _, _, _, _, _, rfl⟩
  · rintro a' w' ⟨rfl, u3, u4, u5, u6, u7, u8, u9, u10, u11, u12, u13, u14, u15, u16, u17, u18, u19, u20, u21, u22, u23, u24, u25, u26, u27, u28, u29, u30, u31, u32, u33, rfl⟩
    by_cases e1 : p.tmod 4 = 0
    · by_cases e2 : p < 0
      · have hr : chk len p 4 = 2 := by rw [chk_of (by omega), if_neg (by omega), if_pos (by omega)]
        go_wp2
        simp only [Exit.jump]
        go_ret
        exact ⟨by rw [hr]; rfl, rfl⟩
      · by_cases e3 : len - 4 < p
        · have hr : chk len p 4 = 2 := by rw [chk_of (by omega), if_neg (by omega), if_pos (by omega)]
          go_wp2
          simp only [Exit.jump]
          go_ret
          exact ⟨by rw [hr]; rfl, rfl⟩
        · have hr : chk len p 4 = 0 := by rw [chk_of (by omega), if_neg (by omega), if_neg (by omega)]
          go_wp2
          simp only [Exit.jump]
          go_ret
          exact ⟨by rw [hr]; rfl, rfl⟩
    · have hr : chk len p 4 = 3 := by rw [chk_of (by omega), if_pos (by omega)]
      go_wp2
      simp only [Exit.jump]
      go_ret
      exact ⟨by rw [hr]; rfl, rfl⟩

set_option maxHeartbeats 2000000 in
set_option maxRecDepth 10000 in
theorem check_8 (len p : Int) (w : World) (h1 : 0 ≤ len) (h2 : len ≤ 1000000) (h3 : -9223372036854775808 ≤ p) (h4 : p ≤ 9223372036854775807) :
    Calls Tryd.prog 54 #[.int .i64 len, .int .i64 p, .int .i64 8] w fun e w' => e = .returned (.int .i64 (chk len p 8)) ∧ w' = w := by
  go_enter Tryd.func54, Tryd.ntmps54
  go_wp2_with fail
  refine wp_scope_jumps 0 (fun a' w' => w' = w ∧ ∃ u3 u4 u5 u6 u7 u8 u9 u10 u11 u12 u13 u14 u15 u16 u17 u18 u19 u20 u21 u22 u23 u24 u25 u26 u27 u28 u29 u30 u31 u32 u33 : Value, a' = { tmps := #[.int .i64 len, .int .i64 p, .int .i64 8, u3, u4, u5, u6, u7, u8, u9, u10, u11, u12, u13, u14, u15, u16, u17, u18, u19, u20, u21, u22, u23, u24, u25, u26, u27, u28, u29, u30, u31, u32, u33], defers := [] }) (fun _ _ => 0) rfl ?_ ?_
  · go_wp2_with fail
    refine wp_loop_rounds 9 ?_
    rw [rounds_succ]; go_wp2
    rw [rounds_succ]; go_wp2
    rw [rounds_succ]; go_wp2
    rw [rounds_succ]; go_wp2
    rw [rounds_succ]; go_wp2
    rw [rounds_succ]; go_wp2
    rw [rounds_succ]; go_wp2
    rw [rounds_succ]; go_wp2
    go_step3
    exact ⟨rfl, rfl, _, _, _, _, _, _, _, _, _, _, _, _, _, _, _, _, _, _, _, _, _, _, _, _, _, _, _, _, _, _, _, rfl⟩
  · rintro a' w' ⟨rfl, u3, u4, u5, u6, u7, u8, u9, u10, u11, u12, u13, u14, u15, u16, u17, u18, u19, u20, u21, u22, u23, u24, u25, u26, u27, u28, u29, u30, u31, u32, u33, rfl⟩
    by_cases e1 : p.tmod 8 = 0
    · by_cases e2 : p < 0
      · have hr : chk len p 8 = 2 := by rw [chk_of (by omega), if_neg (by omega), if_pos (by omega)]
        go_wp2
        simp only [Exit.jump]
        go_ret
        exact ⟨by rw [hr]; rfl, rfl⟩
      · by_cases e3 : len - 8 < p
        · have hr : chk len p 8 = 2 := by rw [chk_of (by omega), if_neg (by omega), if_pos (by omega)]
          go_wp2
          simp only [Exit.jump]
          go_ret
          exact ⟨by rw [hr]; rfl, rfl⟩
        · have hr : chk len p 8 = 0 := by rw [chk_of (by omega), if_neg (by omega), if_neg (by omega)]
          go_wp2
          simp only [Exit.jump]
          go_ret
          exact ⟨by rw [hr]; rfl, rfl⟩
    · have hr : chk len p 8 = 3 := by rw [chk_of (by omega), if_pos (by omega)]
      go_wp2
      simp only [Exit.jump]
      go_ret
      exact ⟨by rw [hr]; rfl, rfl⟩

theorem check_any (len p size : Int) (w : World) (h1 : 0 ≤ len) (h2 : len ≤ 1000000) (h3 : -9223372036854775808 ≤ p) (h4 : p ≤ 9223372036854775807) :
    Calls Tryd.prog 54 #[.int .i64 len, .int .i64 p, .int .i64 size] w fun e w' => e = .returned (.int .i64 (chk len p size)) ∧ w' = w := by
  by_cases c1 : size = 1
  · subst c1; exact check_1 len p w h1 h2 h3 h4
  by_cases c2 : size = 2
  · subst c2; exact check_2 len p w h1 h2 h3 h4
  by_cases c4 : size = 4
  · subst c4; exact check_4 len p w h1 h2 h3 h4
  by_cases c8 : size = 8
  · subst c8; exact check_8 len p w h1 h2 h3 h4
  exact check_other len p size w ⟨c1, c2, c4, c8⟩

end Go.Proofs.YtpjlmmiceiionaaDoor
