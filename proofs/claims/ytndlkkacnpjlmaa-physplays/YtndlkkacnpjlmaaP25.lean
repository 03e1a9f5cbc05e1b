/- PhysPlays: any number of frames. -/
import Derived.Test.YtndlkkacnpjlmaaP23
import Derived.Test.YtndlkkacnpjlmaaP24
namespace Go.Proofs.Ytndlkkacnpjlmaa
open Go.RowKit Go.Maps

theorem plays_any (n : Int) (na : Option Addr) (m cap : Nat) (V : Nat → OpV) (x y : Int) (w : World) (St : Steps w na m V) (hm : m ≤ maxLen) :
    Calls Try.prog 3 #[.int .i64 n, .slice na m cap, .int .i64 x, .int .i64 y] w fun e w' => e = .returned (.bool true) ∧ Kp w w' := by
  by_cases h : n < 1 ∨ 1048576 < n
  · exact plays_no n na m cap x y w h
  · obtain ⟨N, rfl⟩ : ∃ N : Nat, n = N := ⟨n.toNat, by omega⟩
    have hm' : m ≤ 9223372036854775807 := by unfold maxLen at hm; omega
    exact plays_main N na m cap V x y w (by omega) (by omega) St hm'

end Go.Proofs.Ytndlkkacnpjlmaa
