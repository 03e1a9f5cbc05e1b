/- BuddyPlays: the ways that are refused, or great. -/
import Derived.Test.YtlclpnaaaiimaaaDoorUW
namespace Go.Proofs.YtlclpnaaaiimaaaDoor
open Go.RowKit

set_option maxHeartbeats 4000000 in
set_option maxRecDepth 1000000 in
theorem bplays_great (a0 a1 : Int) (na : Option Addr) (m cap : Nat) (w : World) (T : TAB w) (h1 : 0 ≤ a0) (h2 : a0 ≤ 1048576) (h3 : 1500 < a1) (h4 : a1 ≤ 1048576 - a0) :
    Calls Tryd.prog 3 #[.int .i64 a0, .int .i64 a1, .slice na m cap] w fun e w' => e = .returned (.bool true) ∧ Kp w w' := by
  have kt := told_any T
  clear T
  go_enter Tryd.func3, Tryd.ntmps3
  go_wp2_with fail
  with_reducible refine kt.mono ?_
  rintro e w1 ⟨rfl, K1⟩
  clear kt
  go_wp2
  go_ret
  exact ⟨rfl, K1⟩
set_option maxHeartbeats 4000000 in
set_option maxRecDepth 1000000 in
theorem bplays_no (a0 a1 : Int) (na : Option Addr) (m cap : Nat) (w : World) (T : TAB w) (h : ¬ (0 ≤ a0 ∧ a0 ≤ 1048576 ∧ 0 ≤ a1 ∧ a1 ≤ 1048576 - a0)) :
    Calls Tryd.prog 3 #[.int .i64 a0, .int .i64 a1, .slice na m cap] w fun e w' => e = .returned (.bool true) ∧ Kp w w' := by
  have kt := told_any T
  have k1 := new_no a0 a1 w h
  have k2 := rnew_no a0 a1 w h
  have HH : Hid (¬ (0 ≤ a0 ∧ a0 ≤ 1048576 ∧ 0 ≤ a1 ∧ a1 ≤ 1048576 - a0)) := h
  clear T h
  go_enter Tryd.func3, Tryd.ntmps3
  go_upto_region 1 with fail
  go_cut [37] (fun v37 wx => v37 = .bool false ∧ wx = w)
  case first =>
    clear k1 k2 kt
    by_cases d1 : 1500 < a1
    · by_cases d2 : 0 ≤ a0
      · by_cases d3 : a0 ≤ 1048576
        · have d4 : ¬ a1 ≤ 1048576 - a0 := fun z => HH.out ⟨d2, d3, by omega, z⟩
          go_wp2_with fail
          go_meet
          case rel => exact ⟨by simp <;> omega, rfl⟩
        · go_wp2_with fail
          go_meet
          case rel => exact ⟨by simp <;> omega, rfl⟩
      · go_wp2_with fail
        go_meet
        case rel => exact ⟨by simp <;> omega, rfl⟩
    · go_wp2_with fail
      go_meet
      case rel => exact ⟨by simp <;> omega, rfl⟩
  case rest =>
    obtain ⟨rfl, hwc⟩ := hcut
    subst hwc
    go_wp2_with fail
    with_reducible refine k1.mono ?_
    rintro e w' ⟨rfl, rfl⟩
    clear k1
    go_wp2_with fail
    with_reducible refine k2.mono ?_
    rintro e w' ⟨rfl, rfl⟩
    clear k2
    go_upto_block 0 with fail
    go_cut [] (fun wx => wx = w')
    case first =>
      clear kt
      go_wp2_with fail
      go_loopg [12] 1 (fun g v12 wr => v12 = .int .i64 0 ∧ wr = w' ∧ 1 ≤ g)
      case atStart => exact ⟨rfl, rfl, by omega⟩
      case round =>
        obtain ⟨rfl, rfl, hg⟩ := hrel
        by_cases d : (0 : Int) < m
        · go_wp2_with fail
          go_meet
          case rel => exact rfl
        · go_wp2_with fail
          go_meet
          case rel => exact rfl
    case rest =>
      subst hcut
      go_wp2_with fail
      with_reducible refine kt.mono ?_
      rintro e w1 ⟨rfl, K1⟩
      clear kt
      go_wp2
      go_ret
      exact ⟨rfl, K1⟩
theorem bplays_any (a0 a1 : Int) (na : Option Addr) (m cap : Nat) (V : Nat → Int × Int × Int) (w : World) (St : Steps w na m V) (T : TAB w) :
    Calls Tryd.prog 3 #[.int .i64 a0, .int .i64 a1, .slice na m cap] w fun e w' => e = .returned (.bool true) ∧ Kp w w' := by
  by_cases h : 0 ≤ a0 ∧ a0 ≤ 1048576 ∧ 0 ≤ a1 ∧ a1 ≤ 1048576 - a0
  · by_cases c : 1500 < a1
    · exact bplays_great a0 a1 na m cap w T h.1 h.2.1 c h.2.2.2
    · obtain ⟨lo, rfl⟩ : ∃ lo : Nat, a0 = (lo : Int) := ⟨a0.toNat, by omega⟩
      obtain ⟨n, rfl⟩ : ∃ n : Nat, a1 = (n : Int) := ⟨a1.toNat, by omega⟩
      exact bplays_main lo n na m cap V w St T (by omega) (by omega) (by omega)
  · exact bplays_no a0 a1 na m cap w T h
end Go.Proofs.YtlclpnaaaiimaaaDoor
