/- PhysPlays: no such number of frames. -/
import Derived.Test.YtndlkkacnpjlmaaP22
namespace Go.Proofs.Ytndlkkacnpjlmaa
open Go.RowKit Go.Maps

set_option maxHeartbeats 4000000 in
set_option maxRecDepth 100000 in
theorem plays_no (n : Int) (na : Option Addr) (m cap : Nat) (x y : Int) (w : World) (h : n < 1 ∨ 1048576 < n) :
    Calls Try.prog 3 #[.int .i64 n, .slice na m cap, .int .i64 x, .int .i64 y] w fun e w' => e = .returned (.bool true) ∧ Kp w w' := by
  have k1 := new_no n w h
  have k2 := rnew_no n w h
  clear h
  go_enter Try.func3, Try.ntmps3
  go_wp2_with fail
  with_reducible refine k1.mono ?_
  rintro e w1 ⟨rfl, rfl⟩
  clear k1
  go_wp2_with fail
  with_reducible refine k2.mono ?_
  rintro e w2 ⟨rfl, rfl⟩
  clear k2
  go_wp2_with fail
  go_loopg [13] 1 (fun _ v13 wr => v13 = .int .i64 0 ∧ Hid (Kp w2 wr))
  case atStart => exact ⟨rfl, Kp.refl _⟩
  case round =>
    obtain ⟨rfl, HK⟩ := hrel
    by_cases c : (0 : Int) < m
    · go_wp2_with fail
      with_reducible refine (ptold_any _).mono ?_
      rintro e w9 ⟨rfl, K9⟩
      have HK9 : Hid (Kp w2 w9) := HK.out.trans K9
      clear K9 HK
      go_wp2
      go_ret
      exact ⟨rfl, HK9.out⟩
    · go_wp2_with fail
      with_reducible refine (ptold_any _).mono ?_
      rintro e w9 ⟨rfl, K9⟩
      have HK9 : Hid (Kp w2 w9) := HK.out.trans K9
      clear K9 HK
      go_wp2
      go_ret
      exact ⟨rfl, HK9.out⟩

end Go.Proofs.Ytndlkkacnpjlmaa
