/- LedgerPlays: any number of frames. -/
import Derived.Test.YtjeahpekcbogeaaGJ
namespace Go.Proofs.Ytjeahpekcbogeaa
open Go.RowKit Go.Maps

set_option maxHeartbeats 4000000 in
theorem plays_great (a0 st pt : Int) (nc : Option Addr) (mc capc : Nat) (w : World) (h1 : 300 < a0) (h2 : a0 ≤ 1048576) :
    Calls Try.prog 3 #[.int .i64 a0, .slice nc mc capc, .int .i64 st, .int .i64 pt] w fun e w' => e = .returned (.bool true) ∧ Kp w w' := by
  have cT := ltold_any
  go_enter Try.func3, Try.ntmps3
  go_wp2_with (first | (go_at_call 7; with_reducible refine (cT _).mono ?_; rintro e w1 ⟨rfl, K1⟩))
  go_ret
  exact ⟨rfl, K1⟩

set_option maxHeartbeats 4000000 in
set_option maxRecDepth 100000 in
theorem plays_no (a0 st pt : Int) (nc : Option Addr) (mc capc : Nat) (w : World) (hm : mc ≤ maxLen) (b1 b2 : Bool) (g1 : decide (300 < a0) = b1) (g2 : decide (a0 ≤ 1048576) = b2) (g3 : (b1 && b2) = false) (h : a0 < 1 ∨ 1048576 < a0) :
    Calls Try.prog 3 #[.int .i64 a0, .slice nc mc capc, .int .i64 st, .int .i64 pt] w fun e w' => e = .returned (.bool true) ∧ Kp w w' := by
  have cT := ltold_any
  have cP := fun w => lnew_no a0 w h
  have cD := fun w => ldnew_no a0 w h
  have ym : (mc : Int) ≤ 9223372036854775807 := by unfold maxLen at hm; omega
  clear h hm
  cases b1 <;> cases b2
  all_goals first | (exact absurd g3 (by decide)) | skip
  all_goals
    clear g3
    go_enter Try.func3, Try.ntmps3
    go_wp2_with (first | (go_at_call 8; with_reducible refine (cP _).mono ?_; rintro e w' ⟨rfl, rfl⟩) | (go_at_call 9; with_reducible refine (cD _).mono ?_; rintro e w' ⟨rfl, rfl⟩))
    go_loopg [13] 2 (fun g v13 wr => v13 = .int .i64 0 ∧ wr = w' ∧ 1 ≤ g)
    case atStart => exact ⟨rfl, rfl, by omega⟩
    case round =>
      obtain ⟨rfl, rfl, _⟩ := hrel
      by_cases hm : 0 < mc
      · have y1 : (0 : Int) < mc := by omega
        go_wp2_with (first | (go_at_call 7; with_reducible refine (cT _).mono ?_; rintro e w1 ⟨rfl, K1⟩))
        go_ret
        exact ⟨rfl, K1⟩
      · obtain rfl : mc = 0 := by omega
        go_wp2_with (first | (go_at_call 7; with_reducible refine (cT _).mono ?_; rintro e w1 ⟨rfl, K1⟩))
        go_ret
        exact ⟨rfl, K1⟩

theorem plays_any (a0 st pt : Int) (nc : Option Addr) (mc capc : Nat) (V : Nat → Int × Int × Int) (w : World) (hm : mc ≤ maxLen) (C : Steps w nc mc V) :
    Calls Try.prog 3 #[.int .i64 a0, .slice nc mc capc, .int .i64 st, .int .i64 pt] w fun e w' => e = .returned (.bool true) ∧ Kp w w' := by
  by_cases h : a0 < 1 ∨ 1048576 < a0
  · refine plays_no a0 st pt nc mc capc w hm _ _ rfl rfl ?_ h
    rw [Bool.and_eq_false_iff]
    by_cases e : 300 < a0
    · exact .inr (decide_eq_false (by omega))
    · exact .inl (decide_eq_false e)
  · by_cases e : 300 < a0
    · exact plays_great a0 st pt nc mc capc w e (by omega)
    · obtain ⟨n, rfl⟩ : ∃ n : Nat, a0 = n := ⟨a0.toNat, by omega⟩
      exact plays_walk n st pt nc mc capc V w C (by omega) (by omega)

end Go.Proofs.Ytjeahpekcbogeaa
