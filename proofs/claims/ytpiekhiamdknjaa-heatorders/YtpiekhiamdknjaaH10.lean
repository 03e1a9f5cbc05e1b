/- HeatCounts: so many touches are counted, and no more than MaxHeat. -/
import Derived.Test.YtpiekhiamdknjaaH9
namespace Go.Proofs.Ytpiekhiamdknjaa
open Go.RowKit Go.Sort Go.Shelf Go.Lib

theorem NS.kp {w w' : World} {na : Option Addr} {m : Nat} {nb : Nat → Bool} (H : NS w na m nb) (g : Kp w w') : NS w' na m nb := fun i hi => by
  obtain ⟨b, o, h1, h2, h3⟩ := H i hi
  exact ⟨b, o, h1, Nat.lt_of_lt_of_le h2 g.size, by rw [RowKit.Below.cell g (p := ⟨b, o + i, none⟩) h2]; exact h3⟩

theorem near_rh (n : Int) : RH (1048576 - n % 32) 0 := by constructor <;> omega

set_option maxHeartbeats 4000000 in
set_option maxRecDepth 100000 in
theorem counts_law (near : Int) (na : Option Addr) (m mcap : Nat) (nb : Nat → Bool) (w : World) (N : NS w na m nb) :
    Calls Try.prog 5 #[.int .i64 near, .slice na m mcap] w fun e w' => e = .returned (.bool true) ∧ Kp w w' := by
  have e1 := mask5 near
  have R := near_rh near
  have b1 : 0 ≤ near % 32 := by omega
  have b2 : near % 32 ≤ 31 := by omega
  generalize near % 32 = q at *
  have c1 := make_any (1048576 - q) 0
  have NN : Aside (NS w na m nb) := N
  have RR : Hid (RH (1048576 - q) 0) := R
  clear N R
  go_enter Try.func5, Try.ntmps5
  go_wp2_with (go_at_call 7; with_reducible refine (c1 _).mono ?_; rintro e w' ⟨rfl, rfl⟩)
  clear c1 e1
  go_loopg [5, 6, 7, 8] 60 (fun g v5 v6 v7 v8 wr => ∃ (i : Nat) (X Y : Int), v5 = .complex .f64 (floatOfInt .f64 X) (floatOfInt .f64 Y) ∧ v6 = .int .i64 X ∧ v7 = .int .i64 Y ∧ v8 = .int .i64 i ∧ i ≤ 60 ∧ 60 - i ≤ g ∧ Hid (RH X Y) ∧ Y ≤ i ∧ wr = w')
  case atStart => exact ⟨0, 1048576 - q, 0, rfl, rfl, rfl, by go_num, by omega, by omega, RR, by omega, rfl⟩
  case round =>
    obtain ⟨i, X, Y, rfl, rfl, rfl, rfl, hi, hg, HR, hY, rfl⟩ := hrel
    by_cases hlt : i < m ∧ i < 60
    · obtain ⟨h1, h2⟩ := hlt
      have y1 : (i : Int) < m := by omega
      have y2 : (i : Int) < 60 := by omega
      have y3 : (i : Int).toNat = i := by omega
      have x0 := HR.out.x0
      have x1 := HR.out.x1
      have z0 := HR.out.y0
      have z1 := HR.out.y1
      obtain ⟨b, o, rfl, hb1, hb2⟩ := NN.out i h1
      cases hv : nb i with
      | true =>
        rw [hv] at hb2
        have e2 : ty Y true = Y + 1 := by simp [ty]; omega
        have e3 : tx X true = X := rfl
        have R2 := HR.out.touch true
        have c3 := fun w => touch_any _ _ X Y true w HR.out.fx.1 HR.out.fy.1 HR.out
        rw [e2, e3] at c3 R2
        have c4 := make_any X (Y + 1)
        have o1 := is_eq R2.fx.1 R2.fx.1 rfl
        have o2 := is_eq R2.fy.1 R2.fy.1 rfl
        have c5 := fun w => right_true _ _ X (Y + 1) w R2.fx.1 R2.fy.1 R2
        have R3 : Hid (RH X (Y + 1)) := R2
        clear R2 hv e2 e3 HR
        go_wp2_with (first | (go_at_call 9; with_reducible refine (c3 _).mono ?_; rintro e w' ⟨rfl, rfl⟩) | (go_at_call 7; with_reducible refine (c4 _).mono ?_; rintro e w' ⟨rfl, rfl⟩) | (go_at_call 10; with_reducible refine (c5 _).mono ?_; rintro e w' ⟨rfl, rfl⟩))
        go_roundg (60 - (i + 1))
        case measure => omega
        case rel => exact ⟨i + 1, X, Y + 1, rfl, rfl, rfl, by go_num, by omega, by omega, R3, by omega, rfl⟩
      | false =>
        rw [hv] at hb2
        have e2 : ty Y false = Y := rfl
        have e3 : tx X false = min (X + 1) 1048576 := rfl
        have R2 := HR.out.touch false
        have c3 := fun w => touch_any _ _ X Y false w HR.out.fx.1 HR.out.fy.1 HR.out
        rw [e2, e3] at c3 R2
        obtain ⟨X', hX'⟩ : ∃ X', min (X + 1) 1048576 = X' := ⟨_, rfl⟩
        rw [hX'] at c3 R2
        have c4 := make_any X' Y
        have o1 := is_eq R2.fx.1 R2.fx.1 rfl
        have o2 := is_eq R2.fy.1 R2.fy.1 rfl
        have c5 := fun w => right_true _ _ X' Y w R2.fx.1 R2.fy.1 R2
        have R3 : Hid (RH X' Y) := R2
        clear R2 hv e2 e3 HR
        go_wp2_with (first | (go_at_call 9; with_reducible refine (c3 _).mono ?_; rintro e w' ⟨rfl, rfl⟩) | (go_at_call 7; with_reducible refine (c4 _).mono ?_; rintro e w' ⟨rfl, rfl⟩) | (go_at_call 10; with_reducible refine (c5 _).mono ?_; rintro e w' ⟨rfl, rfl⟩))
        go_roundg (60 - (i + 1))
        case measure => omega
        case rel => exact ⟨i + 1, X', Y, rfl, rfl, rfl, by go_num, by omega, by omega, R3, by omega, rfl⟩
    · have out : ∀ Z : Prop, (¬ (i : Int) < m → Z) → ((i : Int) < m → ¬ (i : Int) < 60 → Z) → Z := fun Z k1 k2 => by
        by_cases h : i < m
        · exact k2 (by omega) (by omega)
        · exact k1 (by omega)
      refine out _ (fun y1 => ?_) (fun y1 y2 => ?_)
      · clear out hlt
        go_wp2_with (go_at_call 12; with_reducible refine (told_any _).mono ?_; rintro e w2 ⟨rfl, g9⟩)
        go_ret
        exact ⟨rfl, g9⟩
      · clear out hlt
        go_wp2_with (go_at_call 12; with_reducible refine (told_any _).mono ?_; rintro e w2 ⟨rfl, g9⟩)
        go_ret
        exact ⟨rfl, g9⟩

end Go.Proofs.Ytpiekhiamdknjaa
