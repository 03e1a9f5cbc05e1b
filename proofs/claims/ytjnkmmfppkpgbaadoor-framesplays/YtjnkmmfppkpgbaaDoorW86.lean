/- FramesPlays: what is great, what is refused; all together. -/
import Derived.Test.YtjnkmmfppkpgbaaDoorW85
namespace Go.Proofs.YtjnkmmfppkpgbaaDoor
open Go.RowKit Go.Maps
set_option maxRecDepth 10000

set_option maxHeartbeats 4000000 in
set_option maxRecDepth 100000 in
theorem plays8_great (a0 a1 : Int) (nc : Option Addr) (mc capc : Nat) (w : World) (T : TAB w) (h : 1100 < a0) :
    Calls Tryd.prog 3 #[.int .i64 a0, .int .i64 a1, .slice nc mc capc] w fun e w' => e = .returned (.bool true) ∧ Kp w w' := by
  have kt := ftold_any w T
  clear T
  go_enter Tryd.func3, Tryd.ntmps3
  go_wp2_with fail
  with_reducible refine kt.mono ?_
  rintro e w9 ⟨rfl, K9⟩
  have HK2 : Hid (Kp w w9) := K9
  clear K9 kt
  go_wp2
  go_ret
  exact ⟨rfl, HK2.out⟩
set_option maxHeartbeats 4000000 in
set_option maxRecDepth 100000 in
theorem plays8_few (a0 a1 : Int) (nc : Option Addr) (mc capc : Nat) (w : World) (T : TAB w) (h : a0 < 1) :
    Calls Tryd.prog 3 #[.int .i64 a0, .int .i64 a1, .slice nc mc capc] w fun e w' => e = .returned (.bool true) ∧ Kp w w' := by
  have kt := ftold_any w T
  have k1 := new_no a0 w (.inl h)
  have k2 := rnew_no a0 w (.inl h)
  have h' : ¬ (1100 : Int) < a0 := by omega
  clear T
  go_enter Tryd.func3, Tryd.ntmps3
  go_wp2_with (first | (go_at_call 8; with_reducible refine k1.mono ?_; rintro e w'' ⟨rfl, hw⟩; rw [hw]; clear hw) | (go_at_call 9; with_reducible refine k2.mono ?_; rintro e w'' ⟨rfl, hw⟩; rw [hw]; clear hw))
  with_reducible refine kt.mono ?_
  rintro e w9 ⟨rfl, K9⟩
  have HK2 : Hid (Kp w w9) := K9
  clear K9 kt
  go_wp2
  go_ret
  exact ⟨rfl, HK2.out⟩
set_option maxHeartbeats 8000000 in
set_option maxRecDepth 100000 in
theorem plays8_pool (N : Nat) (a1 : Int) (nc : Option Addr) (mc capc : Nat) (w : World) (T : TAB w) (h1 : 1 ≤ N) (h2 : N ≤ 1100) (hp : ¬ (1 ≤ a1 ∧ a1 ≤ 4096 ∧ a1 < (N : Int))) :
    Calls Tryd.prog 3 #[.int .i64 (N : Int), .int .i64 a1, .slice nc mc capc] w fun e w' => e = .returned (.bool true) ∧ Kp w w' := by
  have k1 := new_ok N w h1 (by omega)
  have k2 : Aside (∀ w, Calls Tryd.prog 9 #[.int .i64 (N : Int)] w fun e w' => ∃ q T, e = .returned (.tuple #[.pointer (some ⟨q, 0, none⟩), .int .i64 0]) ∧ RM w' T q N 0 (fun _ => z0) ∧ Kp w w' ∧ ∀ k, T k → w.heap.size ≤ k) := fun w => rnew_ok N w h1 (by omega)
  have HT : Hid (TAB w) := T
  have z1 : (N : Int) ≤ 1100 := by omega
  have HP : Hid (¬ (1 ≤ a1 ∧ a1 ≤ 4096 ∧ a1 < (N : Int))) := hp
  clear T hp
  go_enter Tryd.func3, Tryd.ntmps3
  go_wp2_with fail
  with_reducible refine k1.mono ?_
  rintro e w1 ⟨pm, M, rfl, m, kk, mn⟩
  have k3 := k2.out w1
  have H1 : Hid (PM w1 M pm N 0 (fun _ => z0) ∧ Kp w w1) := ⟨m, kk⟩
  clear m kk mn k1 k2
  go_wp2_with fail
  with_reducible refine k3.mono ?_
  rintro e w2 ⟨qm, TT, rfl, m, kk, mn⟩
  have k4 := fnew_no (H1.out.1.kp kk) a1 HP.out
  have k5 := dnew_no m a1 HP.out
  have HK : Hid (Kp w w2) := H1.out.2.trans kk
  clear m kk mn k3 H1 HP
  go_wp2_with (first | (go_at_call 10; with_reducible refine k4.mono ?_; rintro e w' ⟨rfl, rfl⟩) | (go_at_call 11; with_reducible refine k5.mono ?_; rintro e w' ⟨rfl, rfl⟩))
  rename_i w' _ _
  go_loopg [15] 1 (fun g v15 wr => v15 = .int .i64 0 ∧ g = 1 ∧ wr = w')
  case atStart => exact ⟨rfl, rfl, rfl⟩
  case round =>
    obtain ⟨rfl, _, rfl⟩ := hrel
    have kt := ftold_any wr (HT.out.kp HK.out)
    by_cases c : 0 < mc
    · have y1 : (0 : Int) < mc := by omega
      go_wp2_with fail
      with_reducible refine kt.mono ?_
      rintro e w9 ⟨rfl, K9⟩
      have HK2 : Hid (Kp w w9) := HK.out.trans K9
      clear K9 kt
      go_wp2
      go_ret
      exact ⟨rfl, HK2.out⟩
    · have y1 : ¬ (0 : Int) < mc := by omega
      go_wp2_with fail
      with_reducible refine kt.mono ?_
      rintro e w9 ⟨rfl, K9⟩
      have HK2 : Hid (Kp w w9) := HK.out.trans K9
      clear K9 kt
      go_wp2
      go_ret
      exact ⟨rfl, HK2.out⟩
theorem plays8_any (a0 a1 : Int) (nc : Option Addr) (mc capc : Nat) (V : Nat → Int × Int × Int) (w : World) (CI : Steps w nc mc V) (T : TAB w) :
    Calls Tryd.prog 3 #[.int .i64 a0, .int .i64 a1, .slice nc mc capc] w fun e w' => e = .returned (.bool true) ∧ Kp w w' := by
  by_cases h1 : 1100 < a0
  · exact plays8_great a0 a1 nc mc capc w T h1
  · by_cases h2 : a0 < 1
    · exact plays8_few a0 a1 nc mc capc w T h2
    · obtain ⟨N, rfl⟩ : ∃ N : Nat, a0 = (N : Int) := ⟨a0.toNat, by omega⟩
      by_cases h3 : 1 ≤ a1 ∧ a1 ≤ 4096 ∧ a1 < (N : Int)
      · obtain ⟨pool, rfl⟩ : ∃ pool : Nat, a1 = (pool : Int) := ⟨a1.toNat, by omega⟩
        exact plays8_walk N pool nc mc capc V w CI T (by omega) (by omega) (by omega) (by omega) (by omega)
      · exact plays8_pool N a1 nc mc capc w T (by omega) (by omega) h3
end Go.Proofs.YtjnkmmfppkpgbaaDoor
