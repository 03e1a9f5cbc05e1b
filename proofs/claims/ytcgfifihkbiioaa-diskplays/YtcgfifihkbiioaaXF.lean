/- DiskPlays: any number of slots. -/
import Derived.Test.YtcgfifihkbiioaaXE
namespace Go.Proofs.Ytcgfifihkbiioaa
open Go.RowKit Go.Maps

set_option maxHeartbeats 4000000 in
set_option maxRecDepth 100000 in
theorem plays_no (n : Int) (na : Option Addr) (m cap : Nat) (w : World) (h : n < 0 ∨ 4096 < n) :
    Calls Try.prog 3 #[.int .i64 n, .slice na m cap] w fun e w' => e = .returned (.bool true) ∧ Kp w w' := by
  have k1 := dnew_no n w h
  have k2 := rnew_no n w h
  clear h
  go_enter Try.func3, Try.ntmps3
  go_wp2_with fail
  with_reducible refine k1.mono ?_
  rintro e w1 ⟨rfl, rfl⟩
  clear k1
  go_wp2_with fail
  with_reducible refine k2.mono ?_
  rintro e w2 ⟨rfl, rfl⟩
  clear k2
  go_wp2_with fail
  go_loopg [9] 1 (fun _ v9 wr => v9 = .int .i64 0 ∧ Hid (Kp w2 wr))
  case atStart => exact ⟨rfl, Kp.refl _⟩
  case round =>
    obtain ⟨rfl, HK⟩ := hrel
    by_cases c : (0 : Int) < m
    · go_wp2_with fail
      with_reducible refine (told_any _).mono ?_
      rintro e w9 ⟨rfl, K9⟩
      have HK9 : Hid (Kp w2 w9) := HK.out.trans K9
      clear K9 HK
      go_wp2
      go_ret
      exact ⟨rfl, HK9.out⟩
    · go_wp2_with fail
      with_reducible refine (told_any _).mono ?_
      rintro e w9 ⟨rfl, K9⟩
      have HK9 : Hid (Kp w2 w9) := HK.out.trans K9
      clear K9 HK
      go_wp2
      go_ret
      exact ⟨rfl, HK9.out⟩

theorem plays_any (n : Int) (na : Option Addr) (m cap : Nat) (V : Nat → OpV) (w : World) (St : Steps w na m V) :
    Calls Try.prog 3 #[.int .i64 n, .slice na m cap] w fun e w' => e = .returned (.bool true) ∧ Kp w w' := by
  by_cases h : n < 0 ∨ 4096 < n
  · exact plays_no n na m cap w h
  · obtain ⟨N, rfl⟩ : ∃ N : Nat, n = N := ⟨n.toNat, by omega⟩
    exact plays_main N na m cap V w (by omega) St

end Go.Proofs.Ytcgfifihkbiioaa
